/- minimise.Least. -/
import Derived.Test.YtniamfaiamgncaaDoorCls
import Derived.Maps.AppendAt
namespace Go.Proofs.YtniamfaiamgncaaDoor
open Go Go.RowKit
section
variable {dl : Nat → Nat → Nat} {cl : Nat → Int}
theorem bfs_step {i c : Nat} {F : List Nat} (hF : bfsF dl cl (256 * i + c) = F) (hc : c < 256) : bfsF dl cl (256 * i + (c + 1)) = fad cl F (dl (F.getD i 0) c) ∧
    bfsE dl cl (256 * i + c) = ((nad (F.map cl) (cl (dl (F.getD i 0) c))).idxOf (cl (dl (F.getD i 0) c)) : Nat) := by
  have e1 : (256 * i + c) / 256 = i := by omega
  have e2 : (256 * i + c) % 256 = c := by omega
  refine ⟨?_, ?_⟩
  · rw [← Nat.add_assoc, bfsF, e1, e2, hF]
  · unfold bfsE; rw [e1, e2, hF]
theorem bfsR_set {i c : Nat} (hc : c < 256) : (bfsR dl cl i c ++ List.replicate (256 - c) 0).set c (bfsE dl cl (256 * i + c)) = bfsR dl cl i (c + 1) ++ List.replicate (256 - (c + 1)) 0 := by
  have hl : (bfsR dl cl i c).length = c := by simp [bfsR]
  rw [List.set_append_right _ _ (by omega), hl, Nat.sub_self, show 256 - c = (256 - (c + 1)) + 1 by omega, List.replicate_succ, List.set_cons_zero]
  unfold bfsR
  rw [List.range_succ, List.map_append]
  simp
end
theorem own_ex {w w' : World} {B e sz n : Nat} {v : Value} {xs : List Value} (h : w.ownsRow B e sz v n xs) (hx : Ext w w') : w'.ownsRow B e sz v n xs := (Fr.of_ext (S := fun _ => False) hx).own h (fun _ _ q => q)
/-- An automaton of one's own, as it lies. -/
structure OwnD (w : World) (B : Nat) (vN vL : Value) (vs : List Value) (m : Dd) : Prop where
  rn : w.ownsRow B 23 1 vN m.nx.length vs
  rl : w.ownsRow B 3 1 vL m.lb.length (m.lb.map iv)
  en : ∀ j, j < m.nx.length → w.ownsRow B 3 1 (vs.getD j nilS) (m.nx.getD j []).length ((m.nx.getD j []).map iv)
  dl : ∀ j, j < m.nx.length → Dj vL (vs.getD j nilS)
  dd : ∀ j k, j < m.nx.length → k < m.nx.length → j ≠ k → Dj (vs.getD j nilS) (vs.getD k nilS)
theorem OwnD.dns {w : World} {B : Nat} {vN vL : Value} {vs : List Value} {m : Dd} (h : OwnD w B vN vL vs m) (hm : m.Ok) : Dns w (.agg #[vN, vL]) m := by
  have h6 := hm.le
  have hvl := h.rn.1
  refine ⟨vN, vL, rfl, ⟨vs, by omega, Slc.of_own h.rn (by omega), fun i hi => ⟨vs.getD i nilS, by rw [getD_get (by omega)]; exact List.getElem?_eq_getElem _, ?_⟩⟩, ?_⟩
  · have hr := hm.row i hi
    have he := h.en i hi
    rw [getD_get hi] at he hr
    refine ⟨Slc.of_own he (by omega), fun x hx => ?_⟩
    obtain ⟨c, hc, rfl⟩ := List.getElem_of_mem hx
    have := hm.ent i c hi (by omega)
    unfold Dd.ent at this
    rw [getD_get hi, getD_get hc] at this
    omega
  · have hl := hm.lbl
    refine ⟨Slc.of_own h.rl (by omega), fun x hx => ?_⟩
    obtain ⟨c, hc, rfl⟩ := List.getElem_of_mem hx
    have := hm.lab c (by omega)
    unfold Dd.lab at this
    rw [getD_get hc] at this
    omega
/-- What least holds when i rows are made. -/
structure Ls (w : World) (B mb lb : Nat) (dl : Nat → Nat → Nat) (cl : Nat → Int) (lab : Nat → Int) (i : Nat) (vF vN vL : Value) (vs : List Value) : Prop where
  fo : w.ownsRow B 3 1 vF (bfsF dl cl (256 * i)).length ((bfsF dl cl (256 * i)).map nv)
  mp : Nm w mb ((bfsF dl cl (256 * i)).map cl)
  nb : Blk w lb #[vN, vL] 25
  od : OwnD w B vN vL vs (bfsD dl cl lab i)
  fl : Dj vF vL
  fe : ∀ j, j < i → Dj vF (vs.getD j nilS)
/-- What it holds while a row is made. -/
structure Ln (wi w : World) (B mb g9 : Nat) (dl : Nat → Nat → Nat) (cl : Nat → Int) (i c : Nat) (v0 vF : Value) : Prop where
  fo : w.ownsRow B 3 1 vF (bfsF dl cl (256 * i + c)).length ((bfsF dl cl (256 * i + c)).map nv)
  mp : Nm w mb ((bfsF dl cl (256 * i + c)).map cl)
  rw : w.ownsRow B 3 1 (.slice (some ⟨g9, 0, none⟩) 256 256) 256 ((bfsR dl cl i c ++ List.replicate (256 - c) 0).map iv)
  fr : Fr (fun g => g = mb ∨ g = g9 ∨ v0.ownBlock = some g) wi w
  lo : ∀ g, vF.ownBlock = some g → v0.ownBlock = some g ∨ wi.heap.size ≤ g
  d9 : vF.ownBlock ≠ some g9
theorem Ln.same {wi w w4 : World} {B mb g9 : Nat} {dl : Nat → Nat → Nat} {cl : Nat → Int} {i c ix tt : Nat} {v0 vF : Value} {G : List Nat} (h : Ln wi w B mb g9 dl cl i c v0 vF) (hc : c < 256) (hG : bfsF dl cl (256 * i + c) = G)
    (hs : bfsF dl cl (256 * i + (c + 1)) = fad cl G tt) (hx : cl tt ∈ G.map cl) (m4 : Nm w4 mb (G.map cl)) (g4 : w.grownBy w4 (some mb)) (hix : bfsE dl cl (256 * i + c) = (ix : Int)) :
    Ln wi (w4.setCell ⟨g9, c, none⟩ (iv ix)) B mb g9 dl cl i (c + 1) v0 vF := by
  have hf : fad cl G tt = G := if_pos hx
  obtain ⟨e1, e2, e3, e4, e5, e6⟩ := h
  rw [hG] at e1 e2
  have o4 := e1.kept g4 (.inr (own_ne_map e1 e2))
  have r4 := e3.kept g4 (.inr (own_ne_map e3 e2))
  have hne := own_ne_map r4 m4
  refine ⟨?_, ?_, ?_, ?_, e5, e6⟩
  · rw [hs, hf]; exact own_set o4 e6
  · rw [hs, hf]; exact m4.setCell (fun q => hne (by show some g9 = some mb; exact congrArg some q.symm)) _
  · have := (r4.stored c (iv ix)).1
    rw [← List.map_set, ← hix, bfsR_set hc] at this
    rw [← hix]; exact this
  · exact (e4.trans (Fr.of_grown (S := fun g => g = mb ∨ g = g9 ∨ v0.ownBlock = some g) g4 (fun k hk => .inl (Option.some.inj hk).symm)) (fun _ _ q => q)).set (.inl (.inr (.inl rfl))) _
theorem Ln.more {wi w w4 w6 : World} {B mb g9 : Nat} {dl : Nat → Nat → Nat} {cl : Nat → Int} {i c tt : Nat} {v0 vF vF' : Value} {G : List Nat} {o : Obj} (h : Ln wi w B mb g9 dl cl i c v0 vF) (hc : c < 256) (hG : bfsF dl cl (256 * i + c) = G)
    (hs : bfsF dl cl (256 * i + (c + 1)) = fad cl G tt) (hx : cl tt ∉ G.map cl) (m4 : Nm w4 mb (G.map cl ++ [cl tt])) (g4 : w.grownBy w4 (some mb)) (hix : bfsE dl cl (256 * i + c) = (G.length : Int))
    (g6 : ((w4.setCell ⟨g9, c, none⟩ (iv G.length)).alloc o).grownBy w6 vF.ownBlock) (o6 : w6.ownsRow B 3 1 vF' (G.length + 1) (G.map nv ++ [nv tt])) (hloc : vF'.ownBlock = vF.ownBlock ∨ vF'.ownBlock = some ((w4.setCell ⟨g9, c, none⟩ (iv G.length)).alloc o).heap.size) :
    Ln wi w6 B mb g9 dl cl i (c + 1) v0 vF' := by
  have hf : fad cl G tt = G ++ [tt] := if_neg hx
  obtain ⟨e1, e2, e3, e4, e5, e6⟩ := h
  rw [hG] at e1 e2
  have o4 := e1.kept g4 (.inr (own_ne_map e1 e2))
  have r4 := e3.kept g4 (.inr (own_ne_map e3 e2))
  have hne := own_ne_map r4 m4
  have o5 := own_ex (own_set (b := g9) (i := c) (u := iv G.length) o4 e6) (show Ext _ ((w4.setCell ⟨g9, c, none⟩ (iv G.length)).alloc o) by go_grown)
  have m5 := (m4.setCell (a := ⟨g9, c, none⟩) (fun q => hne (by show some g9 = some mb; exact congrArg some q.symm)) (iv G.length)).ext (show Ext _ ((w4.setCell ⟨g9, c, none⟩ (iv G.length)).alloc o) by go_grown)
  have r5 := own_ex ((r4.stored c (iv G.length)).1) (show Ext _ ((w4.setCell ⟨g9, c, none⟩ (iv G.length)).alloc o) by go_grown)
  have f5 := ((e4.trans (Fr.of_grown (S := fun g => g = mb ∨ g = g9 ∨ v0.ownBlock = some g) g4 (fun k hk => .inl (Option.some.inj hk).symm)) (fun _ _ q => q)).set (b := g9) (i := c) (.inl (.inr (.inl rfl))) (iv G.length)).trans (Fr.of_ext (S := fun _ => False) (show Ext _ ((w4.setCell ⟨g9, c, none⟩ (iv G.length)).alloc o) by go_grown)) (fun _ _ q => q.elim)
  have h9 : g9 < ((w4.setCell ⟨g9, c, none⟩ (iv G.length)).alloc o).heap.size := by
    have := (r4.lt g9 rfl).2
    simp [World.setCell]; omega
  refine ⟨?_, ?_, ?_, ?_, fun g q => ?_, fun q => ?_⟩
  · rw [hs, hf, List.length_append, List.map_append]; exact o6
  · rw [hs, hf, List.map_append]; exact m5.grown g6 (fun q => own_ne_map o5 m5 q.symm)
  · have := r5.kept g6 (.inr (fun q => e6 q.symm))
    rw [← List.map_set, ← hix, bfsR_set hc] at this
    exact this
  · exact f5.trans (Fr.of_grown (S := fun g => vF.ownBlock = some g) g6 (fun k hk => hk)) (fun k hk q => by
      rcases e5 k q with q | q
      · exact .inr (.inr q)
      · omega)
  · rcases hloc with q2 | q2
    · rw [q2] at q; exact e5 g q
    · rw [q2] at q
      cases q
      exact .inr f5.2.2.2.1
  · rcases hloc with q2 | q2
    · rw [q2] at q; exact e6 q
    · rw [q2] at q
      have := Option.some.inj q
      omega
end Go.Proofs.YtniamfaiamgncaaDoor
namespace Go.Proofs.YtniamfaiamgncaaDoor
open Go Go.RowKit
/-- A row is whole. -/
structure Lq (w : World) (B mb lb g9 : Nat) (dl : Nat → Nat → Nat) (cl : Nat → Int) (lab : Nat → Int) (i : Nat) (vF vN vL : Value) (vs : List Value) : Prop where
  fo : w.ownsRow B 3 1 vF (bfsF dl cl (256 * (i + 1))).length ((bfsF dl cl (256 * (i + 1))).map nv)
  mp : Nm w mb ((bfsF dl cl (256 * (i + 1))).map cl)
  nb : Blk w lb #[vN, vL] 25
  od : OwnD w B vN vL vs (bfsD dl cl lab i)
  rw : w.ownsRow B 3 1 (.slice (some ⟨g9, 0, none⟩) 256 256) 256 ((bfsR dl cl i 256).map iv)
  fl : Dj vF vL
  fe : ∀ j, j < i → Dj vF (vs.getD j nilS)
  f9 : vF.ownBlock ≠ some g9
  l9 : vL.ownBlock ≠ some g9
  e9 : ∀ j, j < i → (vs.getD j nilS).ownBlock ≠ some g9
theorem bfsD_len {dl : Nat → Nat → Nat} {cl : Nat → Int} {lab : Nat → Int} {i : Nat} : (bfsD dl cl lab i).nx.length = i ∧ (bfsD dl cl lab i).lb.length = i := by simp [bfsD]
theorem bfsD_nx {dl : Nat → Nat → Nat} {cl : Nat → Int} {lab : Nat → Int} {i : Nat} : (bfsD dl cl lab (i + 1)).nx = (bfsD dl cl lab i).nx ++ [bfsR dl cl i 256] := by simp [bfsD, List.range_succ]
theorem bfsD_lb {dl : Nat → Nat → Nat} {cl : Nat → Int} {lab : Nat → Int} {i : Nat} : (bfsD dl cl lab (i + 1)).lb = (bfsD dl cl lab i).lb ++ [lab ((bfsF dl cl (256 * i)).getD i 0)] := by simp [bfsD, List.range_succ]
theorem ls_row {wo wn wr : World} {B mb lb g9 : Nat} {dl : Nat → Nat → Nat} {cl : Nat → Int} {lab : Nat → Int} {i : Nat} {v0 vF vN vL : Value} {vs : List Value} (hL : Ls wo B mb lb dl cl lab i v0 vN vL vs) (hx : Ext wo wn) (hg : wo.heap.size = g9) (hI : Ln wn wr B mb g9 dl cl i 256 v0 vF) :
    Lq wr B mb lb g9 dl cl lab i vF vN vL vs := by
  obtain ⟨l1, l2, l3, l4, l5, l6⟩ := hL
  obtain ⟨i1, i2, i3, i4, i5, i6⟩ := hI
  have hlen := @bfsD_len dl cl lab i
  have hsz := hx.size
  have key : ∀ {e sz n : Nat} {v : Value} {xs : List Value}, wo.ownsRow B e sz v n xs → (∀ g, v.ownBlock = some g → v0.ownBlock ≠ some g) → wr.ownsRow B e sz v n xs := fun ho hne =>
    i4.own (own_ex ho hx) (fun k hk q => by
      rcases q with q | q | q
      · exact own_ne_map ho l2 (by rw [hk, q])
      · have := (ho.lt k hk).2; omega
      · exact hne k hk q)
  have dsj : ∀ {v : Value} {e sz n : Nat} {xs : List Value}, wo.ownsRow B e sz v n xs → Dj v0 v → Dj vF v := fun ho hd g hg q => by
    rcases i5 g hg with h | h
    · exact hd g h q
    · have := (ho.lt g q).2; omega
  have nw : ∀ {v : Value} {e sz n : Nat} {xs : List Value}, wo.ownsRow B e sz v n xs → v.ownBlock ≠ some g9 := fun ho q => by
    have := (ho.lt g9 q).2; omega
  refine ⟨i1, i2, ?_, ⟨key l4.rn (own_ne_own l1 l4.rn (by decide)), key l4.rl (fun g q q2 => l5 g q2 q), fun j hj => key (l4.en j hj) (fun g q q2 => l6 j (by omega) g q2 q), l4.dl, l4.dd⟩, ?_, dsj l4.rl l5, fun j hj => dsj (l4.en j (by omega)) (l6 j hj), i6, nw l4.rl, fun j hj => nw (l4.en j (by omega))⟩
  · refine i4.blk (l3.ext hx) (fun q => ?_)
    rcases q with q | q | q
    · exact map_ne_blk l2 l3 q.symm
    · have := l3.lt; omega
    · exact own_ne_blk l1 l3 (by decide) q
  · rw [Nat.sub_self, List.replicate_zero, List.append_nil] at i3
    exact i3
theorem gD_app {α : Type} {l l' : List α} {j : Nat} {d : α} (h : j < l.length) : (l ++ l').getD j d = l.getD j d := by
  rw [List.getD_eq_getElem?_getD, List.getElem?_append_left h, ← List.getD_eq_getElem?_getD]
theorem gD_last {α : Type} {l : List α} {x d : α} {j : Nat} (h : j = l.length) : (l ++ [x]).getD j d = x := by
  subst h; rw [List.getD_eq_getElem?_getD, List.getElem?_append_right (Nat.le_refl _)]; simp
theorem ls_next {wr w8 : World} {B mb lb g9 g5 g6 c5 c6 : Nat} {dl : Nat → Nat → Nat} {cl : Nat → Int} {lab : Nat → Int} {i : Nat} {vF vN vL : Value} {vs : List Value} (h : Lq wr B mb lb g9 dl cl lab i vF vN vL vs) {s : Nat} (hs : (bfsF dl cl (256 * i)).getD i 0 = s)
    (hk : LkF (kf2 vN.ownBlock (vs ++ [.slice (some ⟨g9, 0, none⟩) 256 256]) vL.ownBlock ((bfsD dl cl lab i).lb.map iv ++ [iv (lab s)])) wr w8)
    (o5 : w8.ownsRow B 23 1 (.slice (some ⟨g5, 0, none⟩) (i + 1) c5) (i + 1) (vs ++ [.slice (some ⟨g9, 0, none⟩) 256 256]))
    (o6 : w8.ownsRow B 3 1 (.slice (some ⟨g6, 0, none⟩) (i + 1) c6) (i + 1) ((bfsD dl cl lab i).lb.map iv ++ [iv (lab s)]))
    (_l5 : vN.ownBlock = some g5 ∨ wr.heap.size ≤ g5) (l6 : vL.ownBlock = some g6 ∨ wr.heap.size ≤ g6) :
    Ls ((w8.setCell ⟨lb, 0, none⟩ (.slice (some ⟨g5, 0, none⟩) (i + 1) c5)).setCell ⟨lb, 1, none⟩ (.slice (some ⟨g6, 0, none⟩) (i + 1) c6)) B mb lb dl cl lab (i + 1) vF (.slice (some ⟨g5, 0, none⟩) (i + 1) c5) (.slice (some ⟨g6, 0, none⟩) (i + 1) c6) (vs ++ [.slice (some ⟨g9, 0, none⟩) 256 256]) := by
  obtain ⟨q1, q2, q3, ⟨n1, n2, n3, n4, n5⟩, q4, q5, q6, q7, q8, q9⟩ := h
  obtain ⟨hl1, hl2⟩ := @bfsD_len dl cl lab i
  have hvs : vs.length = i := by have := n1.1; omega
  rw [hl1] at n3 n4 n5 n1
  have key : ∀ {e sz n : Nat} {v : Value} {xs : List Value}, wr.ownsRow B e sz v n xs → (∀ g, v.ownBlock = some g → vN.ownBlock ≠ some g) → (∀ g, v.ownBlock = some g → vL.ownBlock ≠ some g) → w8.ownsRow B e sz v n xs := fun ho a1 a2 =>
    own_lkf ho hk (fun g N T hg hK j hj => by rw [kf2_none (a1 g hg) (a2 g hg)] at hK; cases hK)
  have two : ∀ {e sz n : Nat} {v : Value} {xs : List Value}, w8.ownsRow B e sz v n xs → e ≠ 25 → ((w8.setCell ⟨lb, 0, none⟩ (.slice (some ⟨g5, 0, none⟩) (i + 1) c5)).setCell ⟨lb, 1, none⟩ (.slice (some ⟨g6, 0, none⟩) (i + 1) c6)).ownsRow B e sz v n xs := fun ho he => by
    have q3' : Blk w8 lb #[vN, vL] 25 := hk.blk q3 (kf2_none (own_ne_blk n1 q3 (by decide)) (own_ne_blk n2 q3 (by decide)))
    have hn := own_ne_blk ho q3' he
    exact own_set (own_set ho hn) hn
  have q3' : Blk w8 lb #[vN, vL] 25 := hk.blk q3 (kf2_none (own_ne_blk n1 q3 (by decide)) (own_ne_blk n2 q3 (by decide)))
  have q2' : Nm w8 mb _ := q2.blk (hk.2.1 mb q2.lt (kf2_none (fun e => own_ne_map n1 q2 e) (fun e => own_ne_map n2 q2 e)))
  have hmb := map_ne_blk q2' q3'
  have kF : w8.ownsRow B 3 1 vF _ _ := key q1 (own_ne_own n1 q1 (by decide)) (fun g a b => q5 g a b)
  have kR : w8.ownsRow B 3 1 (.slice (some ⟨g9, 0, none⟩) 256 256) 256 ((bfsR dl cl i 256).map iv) := key q4 (own_ne_own n1 q4 (by decide)) (fun g a b => by cases a; exact q8 b)
  have kE : ∀ j, j < i → w8.ownsRow B 3 1 (vs.getD j nilS) ((bfsD dl cl lab i).nx.getD j []).length (((bfsD dl cl lab i).nx.getD j []).map iv) := fun j hj => key (n3 j hj) (own_ne_own n1 (n3 j hj) (by decide)) (fun g a b => n4 j hj g b a)
  have d6 : ∀ {v : Value} {e sz n : Nat} {xs : List Value}, wr.ownsRow B e sz v n xs → Dj v vL → Dj v (.slice (some ⟨g6, 0, none⟩) (i + 1) c6) := fun ho hd g hg q => by
    cases q
    rcases l6 with l | l
    · exact hd g6 hg l
    · have := (ho.lt g6 hg).2; omega
  have hL9 : Dj (.slice (some ⟨g9, 0, none⟩) 256 256) vL := fun g a b => by cases a; exact q8 b
  obtain ⟨hl3, hl4⟩ := @bfsD_len dl cl lab (i + 1)
  refine ⟨two kF (by decide), (q2'.setCell (a := ⟨lb, 0, none⟩) hmb _).setCell (a := ⟨lb, 1, none⟩) hmb _, ?_, ⟨?_, ?_, fun j hj => ?_, fun j hj => ?_, fun j k hj hk' hne => ?_⟩, ?_, fun j hj => ?_⟩
  · exact (q3'.set 0 _).set 1 _
  · rw [hl3]; exact two o5 (by decide)
  · rw [hl4, bfsD_lb, hs, List.map_append]; exact two o6 (by decide)
  · rw [hl3] at hj
    rw [bfsD_nx]
    by_cases e : j < i
    · rw [gD_app (by omega), gD_app (by omega)]; exact two (kE j e) (by decide)
    · rw [gD_last (by omega), gD_last (by omega)]
      rw [show (bfsR dl cl i 256).length = 256 by simp [bfsR]]
      exact two kR (by decide)
  · rw [hl3] at hj
    by_cases e : j < i
    · rw [gD_app (by omega)]
      exact fun g a b => d6 (n3 j e) (fun g a b => n4 j e g b a) g b a
    · rw [gD_last (by omega)]
      exact fun g a b => d6 q4 hL9 g b a
  · rw [hl3] at hj hk'
    by_cases e : j < i
    · rw [gD_app (by omega)]
      by_cases e2 : k < i
      · rw [gD_app (by omega)]; exact n5 j k e e2 hne
      · rw [gD_last (by omega)]
        exact fun g a b => by cases b; exact q9 j e a
    · rw [gD_last (by omega)]
      by_cases e2 : k < i
      · rw [gD_app (by omega)]
        exact fun g a b => by cases a; exact q9 k e2 b
      · omega
  · exact d6 q1 q5
  · by_cases e : j < i
    · rw [gD_app (by omega)]; exact q6 j e
    · rw [gD_last (by omega)]
      exact fun g a b => by cases b; exact q7 a
theorem OwnD.put {w : World} {B b k : Nat} {vN vL u : Value} {vs : List Value} {m : Dd} (h : OwnD w B vN vL vs m) (hb : b < B) : OwnD (w.setCell ⟨b, k, none⟩ u) B vN vL vs m :=
  ⟨own_set h.rn (fun q => by have := (h.rn.lt b q).1; omega), own_set h.rl (fun q => by have := (h.rl.lt b q).1; omega), fun j hj => own_set (h.en j hj) (fun q => by have := ((h.en j hj).lt b q).1; omega), h.dl, h.dd⟩
theorem OwnD.mono {w : World} {B B' : Nat} {vN vL : Value} {vs : List Value} {m : Dd} (h : OwnD w B vN vL vs m) (hb : B' ≤ B) : OwnD w B' vN vL vs m :=
  ⟨h.rn.mono hb, h.rl.mono hb, fun j hj => (h.en j hj).mono hb, h.dl, h.dd⟩
end Go.Proofs.YtniamfaiamgncaaDoor
namespace Go.Proofs.YtniamfaiamgncaaDoor
open Go Go.RowKit
set_option maxHeartbeats 8000000 in
set_option maxRecDepth 20000 in
theorem least0_any (d : Dd) (C : List Int) (v vC : Value) (w : World) (hd : d.Ok) (h : Dns w v d) (hC : Ints w vC C) (hCl : C.length = d.nx.length)
    (hE : ∀ s t, s < d.nx.length → t < d.nx.length → (C.getD s 0 = C.getD t 0 ↔ Beq (d.beh s) (d.beh t))) :
    Calls Tryd.prog 64 #[v, vC] w fun e w' => ∃ m vN vL vs, e = .returned (.agg #[vN, vL]) ∧ Canon m (d.beh 0) ∧ OwnD w' w.heap.size vN vL vs m ∧ Ext w w' := by
  obtain ⟨a, b', rfl, h1, h2⟩ := h
  obtain ⟨i0, hi, hz0, hz1, hz2⟩ := info_parts info_int
  obtain ⟨j0, hj, hy0, hy1, hy2⟩ := info_parts info_sli
  obtain ⟨n, hn⟩ : ∃ n, d.nx.length = n := ⟨_, rfl⟩
  have hm : d.lb.length = n := by rw [hd.lbl, hn]
  have h0 := hd.pos
  have h6 := hd.le
  rw [hn] at h0 h6 hE hCl
  obtain ⟨p, cap, rfl, _⟩ := h1.shape
  obtain ⟨p2, cap2, rfl, _⟩ := h2.shape
  obtain ⟨p3, cap3, rfl, _⟩ := hC.shape
  rw [hn] at h1 ⊢
  rw [hm] at h2 ⊢
  rw [hCl] at hC ⊢
  obtain ⟨x0, hx0⟩ : ∃ x0, C.getD 0 0 = x0 := ⟨_, rfl⟩
  have hC0 : C[0]'(by omega) = x0 := by rw [← hx0, getD_get (by omega)]
  obtain ⟨bC, oC, rfl, hbC, hcC, r1, r2⟩ := hC.cell (k := 0) (by omega)
  rw [hC0] at hcC r1 r2
  have HK0 := Lib.hid (key_int r1 r2)
  have HX0 := Lib.hid hx0
  have HBX := Lib.hid (Blk.new w #[.slice p n cap, .slice p2 n cap2] 25)
  have HD := Lib.hid hd
  have HN := Lib.hid hn
  have HM := Lib.hid hm
  have HE := Lib.hid hE
  have H1 := Lib.hid h1
  have H2 := Lib.hid h2
  have HC := Lib.hid hC
  have HCL := Lib.hid hCl
  have hmm := @run_makeMap Tryd.prog
  clear h1 h2 hd hn hm hE hC hCl r1 r2 hx0 hC0
  go_enter Tryd.func64, Tryd.ntmps64
  go_upto_region 2 with fail
  have HBX := Lib.hid (((HBX.out).alloc (.cells #[nilS, nilS] 25)).alloc (.cells #[nilS, nilS] 25))
  have HR := Lib.hid ((Blk.new (w.alloc (.cells #[.slice p n cap, .slice p2 n cap2] 25)) #[nilS, nilS] 25).alloc (.cells #[nilS, nilS] 25))
  have HL := Lib.hid (Blk.new ((w.alloc (.cells #[.slice p n cap, .slice p2 n cap2] 25)).alloc (.cells #[nilS, nilS] 25)) #[nilS, nilS] 25)
  have E1 := Lib.hid (show Ext w (((w.alloc (.cells #[.slice p n cap, .slice p2 n cap2] 25)).alloc (.cells #[nilS, nilS] 25)).alloc (.cells #[nilS, nilS] 25)) by go_grown)
  have hcC := (E1.out.cell (p := ⟨bC, oC + 0, none⟩) hbC).trans hcC
  have hsz : (((w.alloc (.cells #[.slice p n cap, .slice p2 n cap2] 25)).alloc (.cells #[nilS, nilS] 25)).alloc (.cells #[nilS, nilS] 25)).heap.size = w.heap.size + 1 + 1 + 1 := by simp
  rw [show (w.alloc (.cells #[.slice p n cap, .slice p2 n cap2] 25)).heap.size = w.heap.size + 1 by simp] at HR
  rw [show ((w.alloc (.cells #[.slice p n cap, .slice p2 n cap2] 25)).alloc (.cells #[nilS, nilS] 25)).heap.size = w.heap.size + 1 + 1 by simp] at HL
  generalize (((w.alloc (.cells #[.slice p n cap, .slice p2 n cap2] 25)).alloc (.cells #[nilS, nilS] 25)).alloc (.cells #[nilS, nilS] 25)) = w1 at *
  obtain ⟨lb, hlb⟩ : ∃ lb, w.heap.size + 1 + 1 = lb := ⟨_, rfl⟩
  rw [hlb] at HL hsz ⊢
  rw [Nat.add_zero] at hcC
  have hmE : Ext w1 (w1.alloc (.map #[] 0)) := by go_grown
  have hcC2 := (hmE.cell (p := ⟨bC, oC, none⟩) (by show bC < w1.heap.size; omega)).trans hcC
  have hM0 := MapAt.made Tryd.prog 3 w1
  rw [hsz] at hM0
  obtain ⟨w2, hrun, hM2, hg2, hs2⟩ := hM0.store_new law_int Tryd.underlying181 (key := .int .i64 x0) (val := .int .i64 0) HK0.out rfl (g := numf [x0]) (by simp [numf]) (fun y hy => by
    unfold numf
    split
    · rename_i x
      rw [if_neg (fun q => hy (by rw [List.mem_singleton.1 q]))]
    · rfl)
  have hs2' : w2.heap.size = lb + 1 + 1 := by rw [hs2]; simp [hsz]
  have E2 := Lib.hid (show Ext w1 w2 from ext_map hmE hg2 (by omega))
  clear hM0
  go_upto_region 3 with fail
  have MP := Lib.hid (show Nm w2 (lb + 1) [x0] from hM2)
  clear hrun hM2 hg2 hs2 hmE hcC hcC2 hmm
  go_wp2_with fail
  have HO3 := World.ownsRow_lit (base := lb) (e := 3) (size := 1) w2 #[nv 0] 1 (by omega) (by unfold maxLen; omega) rfl
  rw [hs2'] at HO3
  have E3 := ext_box w2 #[nv 0] 3
  have hs3 : (w2.alloc (.cells #[nv 0] 3)).heap.size = lb + 1 + 1 + 1 := by simp [hs2']
  have E13 := Lib.hid (bel_call E2.out E3)
  have B0 := Lib.hid (show Below lb w1 (w2.alloc (.cells #[nv 0] 3)) from ⟨E13.out.os, E13.out.tape, E13.out.output, E13.out.size, fun k hk => E13.out.block k (by omega)⟩)
  have L0 := Lib.hid (show Ls (w2.alloc (.cells #[nv 0] 3)) lb (lb + 1) lb d.to (fun s => C.getD s 0) d.lab 0 (.slice (some ⟨lb + 1 + 1, 0, none⟩) 1 1) nilS nilS [] from
    ⟨HO3, (by have := MP.out.ext E3; rw [← HX0.out] at this; exact this), HL.out.ext E13.out, ⟨own_nil _ _ _ _, own_nil _ _ _ _, fun j hj => absurd hj (by simp [bfsD]), fun j hj => absurd hj (by simp [bfsD]), fun j k hj => absurd hj (by simp [bfsD])⟩, (fun g _ q => nomatch q), fun j hj => absurd hj (by omega)⟩)
  clear HO3 MP E3 HL E2
  generalize w2.alloc (.cells #[nv 0] 3) = w3 at *
  obtain ⟨mb, hmb⟩ : ∃ mb, lb + 1 = mb := ⟨_, rfl⟩
  rw [hmb] at L0
  simp only [hmb] at L0 ⊢
  have HMB := Lib.hid hmb
  have HTO := Lib.hid (show ∀ s c, s < n → c < 256 → d.to s c < n from fun s c hs hc => by
    have := HD.out.to (s := s) (c := c) (by rw [HN.out]; exact hs) hc
    rw [HN.out] at this; exact this)
  have HFN := Lib.hid (show ∀ k, (bfsF d.to (fun s => C.getD s 0) k).length ≤ n from fun k => bfs_le (S := fun s => s < n) h0 (fun s c hs hc => HTO.out s c hs hc) (fun _ h => h) k)
  have HFI := Lib.hid (show ∀ k, ∀ x ∈ bfsF d.to (fun s => C.getD s 0) k, x < n from fun k => bfs_in (S := fun s => s < n) h0 (fun s c hs hc => HTO.out s c hs hc) k)
  clear hmb
  go_loopw [7, 8] (fun s7 s8 wr => ∃ i : Nat, i ≤ n ∧ s8 = .int .i64 i ∧ ∃ vN vL vs, Hid (Ls wr lb mb lb d.to (fun s => C.getD s 0) d.lab i s7 vN vL vs) ∧ Hid (∀ j, j < i → j < (bfsF d.to (fun s => C.getD s 0) (256 * j)).length) ∧ Hid (Below lb w1 wr)) (fun _ i _ => n - (intOf i).toNat)
  case atStart => exact ⟨0, Nat.zero_le _, rfl, _, _, _, L0, Lib.hid (fun j hj => absurd hj (by omega)), B0⟩
  case round =>
    obtain ⟨i, hi', rfl, vN, vL, vs, hL, hJ, hB⟩ := hrel
    have hF1 : 1 ≤ (bfsF d.to (fun s => C.getD s 0) (256 * i)).length := bfs_len_mono (j := 0) (Nat.zero_le _)
    have hFn := HFN.out (256 * i)
    have hFs := HFI.out (256 * i)
    obtain ⟨gF, cF, rfl, hcF, hgF, hgFl, hmF⟩ := own_some hL.out.fo hF1
    obtain ⟨F, hF⟩ : ∃ F, bfsF d.to (fun s => C.getD s 0) (256 * i) = F := ⟨_, rfl⟩
    have FO := hL.out.fo
    rw [hF] at hF1 hFn hFs hcF FO ⊢
    have HFE := Lib.hid hF
    by_cases hil : i < F.length
    · have hs : F.getD i 0 < n := by rw [getD_get hil]; exact hFs _ (List.getElem_mem _)
      obtain ⟨s, hse⟩ : ∃ s, F.getD i 0 = s := ⟨_, rfl⟩
      rw [hse] at hs
      have HSE := Lib.hid hse
      have hsl' : s < d.nx.length := by rw [HN.out]; exact hs
      obtain ⟨bR, oR, aR, cR, rfl, hbR, hcR, hIR, _⟩ := H1.out.cell hsl'
      have hrl : d.nx[s].length = 256 := by have := HD.out.row s hsl'; rwa [getD_get hsl'] at this
      rw [hrl] at hcR hIR
      have HIR := Lib.hid hIR
      have EW : Ext w wr := Below.trans E1.out (show Below w.heap.size w1 wr from ⟨hB.out.os, hB.out.tape, hB.out.output, hB.out.size, fun k hk => hB.out.block k (by omega)⟩)
      have hls : lb ≤ wr.heap.size := by omega
      clear hF hse hIR
      go_wp2_with (at_make; refine wpList_make_full _ rfl _ _ 23 rfl lb 3 i0 (.int .i64 0) 1 Tryd.underlying23 hi hz0 hz1 .i64 .i64 _ _ 256 rfl rfl rfl rfl (by rw [hz2]; omega) (by unfold maxLen; omega) (by omega) ?_; intro wm hown hgm)
      have Em : Ext wr wm := ⟨hgm.os, hgm.tape, hgm.output, hgm.size, fun k hk => hgm.block k hk (by simp)⟩
      obtain ⟨bE, oE, rfl, _⟩ := HIR.out.cell (k := 0) (by omega)
      have z0 := ((HBX.out.below hB.out (by omega)).ext Em).cell 0
      have z1 := nat_cell (own_ex FO Em) hil rfl
      rw [HSE.out] at z1
      have z2 := ((bel_call EW Em).cell (p := ⟨bR, oR + s, none⟩) hbR).trans hcR
      have z3 := toList_madeCells_one (.int .i64 0) 256
      have hown2 : wm.ownsRow lb 3 1 (.slice (some ⟨wr.heap.size, 0, none⟩) 256 256) 256 ((List.replicate 256 0).map iv) := by
        rw [List.map_replicate, show iv 0 = Value.int .i64 0 from rfl, ← z3]; simpa [Value.cells] using hown
      have HOW := Lib.hid hown2
      have EM := Lib.hid Em
      have HFO := Lib.hid FO
      clear hown hown2 hgm z3 Em FO hcR
      go_quiet (fail)
      have EN := Lib.hid (bel_call EM.out (drn_ext wm nq))
      have HOW2 := Lib.hid (own_ex HOW.out (drn_ext wm nq))
      generalize wm.drewN nq = wn at *
      go_wp2_with fail
      obtain ⟨g9, hg9⟩ : ∃ g9, wr.heap.size = g9 := ⟨_, rfl⟩
      rw [hg9] at HOW2 ⊢
      have HG9 := Lib.hid hg9
      clear hg9 z0 z1 z2
      obtain ⟨wo, rfl⟩ : ∃ wo : World, wo = wr := ⟨_, rfl⟩
      have HFE' := HFE.out
      have I0 := Lib.hid (show Ln wn wn lb mb g9 d.to (fun s => C.getD s 0) i 0 (.slice (some ⟨gF, 0, none⟩) F.length cF) (.slice (some ⟨gF, 0, none⟩) F.length cF) from
        ⟨by rw [Nat.add_zero, HFE']; exact own_ex HFO.out EN.out, hL.out.mp.ext EN.out, HOW2.out, Fr.refl _ _, fun g q => .inl q, fun q => by have q : gF = g9 := Option.some.inj q; have := HG9.out; omega⟩)
      clear HFE'
      go_loopw [7, 34] (fun s7 s34 wr => ∃ c : Nat, c ≤ 256 ∧ s34 = .int .i64 c ∧ Hid (Ln wn wr lb mb g9 d.to (fun s => C.getD s 0) i c (.slice (some ⟨gF, 0, none⟩) F.length cF) s7)) (fun _ i _ => 256 - (intOf i).toNat)
      case atStart => exact ⟨0, Nat.zero_le _, rfl, I0⟩
      case round =>
        obtain ⟨c, hc, rfl, hI⟩ := hrel
        by_cases hcl : c < 256
        · have hG1 : 1 ≤ (bfsF d.to (fun s => C.getD s 0) (256 * i + c)).length := bfs_len_mono (j := 0) (Nat.zero_le _)
          have hGn := HFN.out (256 * i + c)
          have hGF : (bfsF d.to (fun s => C.getD s 0) (256 * i + c)).getD i 0 = s := by
            rw [bfs_get (j := 256 * i) (by omega) (by rw [HFE.out]; exact hil), HFE.out]; exact HSE.out
          obtain ⟨gG, cG, rfl, hcG, hgG, hgGl, hmG⟩ := own_some hI.out.fo hG1
          obtain ⟨G, hG⟩ : ∃ G, bfsF d.to (fun s => C.getD s 0) (256 * i + c) = G := ⟨_, rfl⟩
          have HFG := Lib.hid hG
          obtain ⟨tt, htq⟩ : ∃ tt, d.to s c = tt := ⟨_, rfl⟩
          have htt := HTO.out s c hs hcl
          obtain ⟨st1, st2⟩ := bfs_step hG hcl
          rw [hG] at hGF hG1 hGn hcG ⊢
          rw [hGF, htq] at st1 st2
          rw [htq] at htt
          obtain ⟨x, hx⟩ : ∃ x, C.getD tt 0 = x := ⟨_, rfl⟩
          rw [hx] at st2
          have GO := hI.out.fo
          have MP := hI.out.mp
          rw [hG] at GO MP
          have EX : Ext w wr := Below.trans EW (Below.trans (show Below w.heap.size wo wn from ⟨EN.out.os, EN.out.tape, EN.out.output, EN.out.size, fun k hk => EN.out.block k (by omega)⟩) (hI.out.fr.below (by have := EN.out.size; omega) (fun k hk q => by
            have := HMB.out
            have := HG9.out
            rcases q with q | q | q
            · omega
            · omega
            · have q : gF = k := Option.some.inj q
              omega)))
          obtain ⟨bE2, oE2, e2, hbE, hcE, _⟩ := HIR.out.cell (k := c) (by omega)
          cases e2
          obtain ⟨bC2, oC2, e3, hbC2, hcC2, r1, r2⟩ := HC.out.cell (k := tt) (by rw [HCL.out]; exact htt)
          cases e3
          have hent := HD.out.ent s c hsl' hcl
          have hee : d.nx[s][c]'(by omega) = (tt : Int) := by
            have : d.ent s c = d.nx[s][c]'(by omega) := by unfold Dd.ent; rw [getD_get hsl', getD_get (by omega)]
            rw [← this, ← htq]; unfold Dd.to; omega
          have hxx : C[tt]'(by rw [HCL.out]; exact htt) = x := by rw [← hx, getD_get (by rw [HCL.out]; exact htt)]
          rw [hee] at hcE
          rw [hxx] at hcC2 r1 r2
          have kE : wr.cell? ⟨bE, oE + c, none⟩ = _ := (EX.cell (p := ⟨bE, oE + c, none⟩) hbE).trans hcE
          have kC : wr.cell? ⟨bC, oC + tt, none⟩ = _ := (EX.cell (p := ⟨bC, oC + tt, none⟩) hbC2).trans hcC2
          have HNM := Lib.hid (num_any _ x mb wr MP r1 r2)
          have HGO := Lib.hid GO
          have HMP := Lib.hid MP
          have HST1 := Lib.hid st1
          have HI2 : Hid (Ln wn wr lb mb g9 d.to (fun s => C.getD s 0) i c (.slice (some ⟨gF, 0, none⟩) F.length cF) (.slice (some ⟨gG, 0, none⟩) G.length cG)) := Lib.hid (by have := hI.out; rw [hG] at this; exact this)
          have HX := Lib.hid (show C.getD tt 0 = x from hx)
          clear hcE hcC2 hee hxx hent hGF htq hx GO MP EX r1 r2 st1 hbC2
          by_cases hxm : x ∈ G.map (fun s => C.getD s 0)
          · rw [nad_in hxm] at HNM st2
            obtain ⟨ix, hix⟩ : ∃ ix, (G.map (fun s => C.getD s 0)).idxOf x = ix := ⟨_, rfl⟩
            have hixl : ix < G.length := by
              have := List.idxOf_lt_length_iff.2 hxm
              rw [hix, List.length_map] at this; exact this
            rw [hix] at HNM st2
            have HB2 := Lib.hid st2
            clear hix st2
            go_wp2_with fail
            refine HNM.out.mono ?_
            rintro e w4 ⟨rfl, m4, g4, s4⟩
            have RW4 := HI2.out.rw.kept g4 (.inr (own_ne_map HI2.out.rw HMP.out))
            obtain ⟨y0, y1⟩ : ∃ u, w4.cell? ⟨g9, c, none⟩ = some u := ⟨_, by rw [RW4.cellAt c (by omega)]; exact List.getElem?_eq_getElem (by rw [RW4.1]; omega)⟩
            have y2 := RW4.frozenAt c
            have d1 : (ix == G.length) = false := by simp; omega
            have d2 : ((ix : Int) == (G.length : Int)) = false := by simp; omega
            have I9 := Lib.hid (HI2.out.same hcl HFG.out HST1.out (by show C.getD tt 0 ∈ _; rw [HX.out]; exact hxm) m4 g4 HB2.out)
            clear RW4 m4 g4 HNM
            go_wp2_with fail
            go_roundw
            case rel => exact ⟨c + 1, by omega, by go_num, I9⟩
            case measure => simp [intOf]; omega
          · rw [nad_out hxm, idx_out hxm, List.length_map] at HNM
            rw [nad_out hxm, idx_out hxm, List.length_map] at st2
            have HB2 := Lib.hid st2
            clear st2
            go_wp2_with fail
            refine HNM.out.mono ?_
            rintro e w4 ⟨rfl, m4, g4, s4⟩
            have RW4 := HI2.out.rw.kept g4 (.inr (own_ne_map HI2.out.rw HMP.out))
            have O4 := HGO.out.kept g4 (.inr (own_ne_map HGO.out HMP.out))
            have O5 := Lib.hid (own_set (b := g9) (i := c) (u := iv G.length) O4 HI2.out.d9)
            obtain ⟨y0, y1⟩ : ∃ u, w4.cell? ⟨g9, c, none⟩ = some u := ⟨_, by rw [RW4.cellAt c (by omega)]; exact List.getElem?_eq_getElem (by rw [RW4.1]; omega)⟩
            have y2 := RW4.frozenAt c
            have hl4 : lb ≤ w4.heap.size := by omega
            have M4 := Lib.hid m4
            have G4 := Lib.hid g4
            clear RW4 m4 g4 HNM O4
            go_upto_region 13 with fail
            go_wp2_with (at_builtin; refine wpList_append_own_at _ rfl (.tmp 55) (.tmp 57) 23 rfl lb 3 i0 (.int .i64 0) 1 8 Tryd.underlying23 hi hz0 hz1 hz2 rfl (by decide) _ G.length (G.map nv) rfl (O5.out.alloc _) ⟨_, 0, none⟩ 1 1 [nv tt] rfl rfl (cell_nwb _ [nv tt] _ _ (by first | (simp [World.setCell]; done) | (simp [World.setCell]; omega))) (iv_one _) (by unfold maxLen; omega) (by omega) (by simp [World.setCell]; omega) ?_; intro v6 w6 hown6 hgrow6 hnil6 hloc6)
            have I9 := Lib.hid (HI2.out.more hcl HFG.out HST1.out (by show C.getD tt 0 ∉ _; rw [HX.out]; exact hxm) (by show Nm _ _ (_ ++ [C.getD tt 0]); rw [HX.out]; exact M4.out) G4.out HB2.out hgrow6 hown6 hloc6)
            clear hgrow6 hown6 hloc6 hnil6
            go_wp2_with fail
            go_roundw
            case rel => exact ⟨c + 1, by omega, by go_num, I9⟩
            case measure => simp [intOf]; omega
        · obtain rfl : c = 256 := by omega
          have hL2 := hL.out
          rw [HFE.out] at hL2
          have LQ := ls_row hL2 EN.out HG9.out hI.out
          clear hL2
          have hG1 : 1 ≤ (bfsF d.to (fun s => C.getD s 0) (256 * (i + 1))).length := bfs_len_mono (j := 0) (Nat.zero_le _)
          have hGn := HFN.out (256 * (i + 1))
          have hiG : i < (bfsF d.to (fun s => C.getD s 0) (256 * (i + 1))).length := Nat.lt_of_lt_of_le (by rw [HFE.out]; exact hil) (bfs_len_mono (show 256 * i ≤ 256 * (i + 1) by omega))
          have hGF : (bfsF d.to (fun s => C.getD s 0) (256 * (i + 1))).getD i 0 = s := by
            rw [bfs_get (j := 256 * i) (by omega) (by rw [HFE.out]; exact hil), HFE.out]; exact HSE.out
          obtain ⟨gG, cG, rfl, hcG, hgG, hgGl, hmG⟩ := own_some LQ.fo hG1
          obtain ⟨Gs, hG⟩ : ∃ Gs, bfsF d.to (fun s => C.getD s 0) (256 * (i + 1)) = Gs := ⟨_, rfl⟩
          have GO := LQ.fo
          rw [hG] at hGF hG1 hGn hcG hiG GO LQ ⊢
          have BW : Below lb w1 wr := Below.trans hB.out (Below.trans (show Below lb wo wn from ⟨EN.out.os, EN.out.tape, EN.out.output, EN.out.size, fun k hk => EN.out.block k (by omega)⟩) (hI.out.fr.below (by have := EN.out.size; omega) (fun k hk q => by
            have := HMB.out
            have := HG9.out
            rcases q with q | q | q
            · omega
            · omega
            · have q : gF = k := Option.some.inj q
              omega)))
          have EX : Ext w wr := Below.trans E1.out (show Below w.heap.size w1 wr from ⟨BW.os, BW.tape, BW.output, BW.size, fun k hk => BW.block k (by omega)⟩)
          have ON := LQ.od.rn
          have OL := LQ.od.rl
          rw [bfsD_len.1] at ON
          rw [bfsD_len.2] at OL
          obtain ⟨aN, kN, rfl⟩ := own_shp ON
          obtain ⟨aL, kL, rfl⟩ := own_shp OL
          obtain ⟨ls, hls'⟩ : ∃ ls, (bfsD d.to (fun s => C.getD s 0) d.lab i).lb = ls := ⟨_, rfl⟩
          have hlsl : ls.length = i := by rw [← hls', bfsD_len.2]
          obtain ⟨bL, oL, rfl, hbL, hcL, _⟩ := H2.out.cell (k := s) (by rw [HM.out]; exact hs)
          obtain ⟨y, hy⟩ : ∃ y, d.lab s = y := ⟨_, rfl⟩
          have hyy : d.lb[s]'(by rw [HM.out]; exact hs) = y := by rw [← hy]; unfold Dd.lab; rw [getD_get (by rw [HM.out]; exact hs)]
          rw [hyy] at hcL
          have k0 : wr.cell? ⟨lb, 0, none⟩ = some (.slice aN i kN) := LQ.nb.cell 0
          have k1 : wr.cell? ⟨lb, 1, none⟩ = some (.slice aL i kL) := LQ.nb.cell 1
          have k2 : wr.cell? ⟨w.heap.size, 1, none⟩ = _ := (HBX.out.below BW (by omega)).cell 1
          have k3 := nat_cell GO hiG rfl
          rw [hGF] at k3
          have k4 : wr.cell? ⟨bL, oL + s, none⟩ = _ := (EX.cell (p := ⟨bL, oL + s, none⟩) hbL).trans hcL
          have hne : ∀ g, (Value.slice aN i kN).ownBlock = some g → (Value.slice aL i kL).ownBlock ≠ some g := fun g a b => own_ne_own ON OL (by decide) g b a
          have HX1 := Lib.hid (fun g (hg : (Value.slice aN i kN).ownBlock = some g) => (ON.lt g hg))
          have HX2 := Lib.hid (fun g (hg : (Value.slice aL i kL).ownBlock = some g) => (OL.lt g hg))
          have HNE := Lib.hid hne
          have HKN := Lib.hid (fun g (h1 : (Value.slice aN i kN).ownBlock ≠ some g) (h2 : (Value.slice aL i kL).ownBlock ≠ some g) => kf2_none (ys1 := vs ++ [.slice (some ⟨g9, 0, none⟩) 256 256]) (ys2 := ls.map iv ++ [iv y]) h1 h2)
          have HKH := Lib.hid (fun g (hg : wr.heap.size ≤ g) => HKN.out g (fun q => by have := HX1.out g q; omega) (fun q => by have := HX2.out g q; omega))
          have HKB := Lib.hid (fun g (hg : g < lb) => HKN.out g (fun q => by have := HX1.out g q; omega) (fun q => by have := HX2.out g q; omega))
          have nLb := Lib.hid (HKN.out lb (own_ne_blk ON LQ.nb (by decide)) (own_ne_blk OL LQ.nb (by decide)))
          have nB := Lib.hid (HKB.out w.heap.size (by omega))
          have nL := Lib.hid (HKB.out bL (by omega))
          have nG := Lib.hid (HKN.out gG (fun q => own_ne_own ON GO (by decide) gG rfl q) (fun q => LQ.fl gG rfl q))
          rw [hls'] at OL
          have ON := Lib.hid ON
          have OL := Lib.hid OL
          have LQ := Lib.hid LQ
          have HLS := Lib.hid hls'
          have HYY := Lib.hid hy
          have K0 := Lib.hid k0
          have K1 := Lib.hid k1
          have K2 := Lib.hid k2
          have K3 := Lib.hid k3
          have K4 := Lib.hid k4
          have HGE := Lib.hid hG
          have hbase : lb ≤ wr.heap.size := by omega
          have hvl : vs.length = i := by have := ON.out.1; omega
          have BW := Lib.hid BW
          clear k0 k1 k2 k3 k4 hG GO hne hy hyy hcL hGF hls' EX
          go_upto_region 15 with fail
          refine G.wp_region_tail (G := LkF (kf2 (Value.slice aN i kN).ownBlock (vs ++ [.slice (some ⟨g9, 0, none⟩) 256 256]) (Value.slice aL i kL).ownBlock (ls.map iv ++ [iv y]))) (RsL 3 4 15 16 (OneV wr.heap.size 23 [.slice (some ⟨g9, 0, none⟩) 256 256]) (AppR wr.heap.size lb 23 1 (i + 1) (Value.slice aN i kN).ownBlock (vs ++ [.slice (some ⟨g9, 0, none⟩) 256 256])) (OneV wr.heap.size 3 [iv y]) (AppR wr.heap.size lb 3 1 (i + 1) (Value.slice aL i kL).ownBlock (ls.map iv ++ [iv y]))) 18 (by kernel_rfl) (by kernel_rfl) (RsL_mono (OneV_lkf _ HKH.out _ _) (AppR_lkf _ _ _ _ _ _ _ (kf2_app1 (fun g hg => (HX1.out g hg).2) (fun g hg => (HX2.out g hg).2))) (OneV_lkf _ HKH.out _ _) (AppR_lkf _ _ _ _ _ _ _ (kf2_app2 HNE.out (fun g hg => (HX1.out g hg).2) (fun g hg => (HX2.out g hg).2)))) (fun hex => ?_)
          simp only [List.take_succ_cons, List.take_zero, List.drop_succ_cons, List.drop_zero]
          iterate 3
            (refine G.wpS_one (A := ?_) hex rfl rfl (by simp) ?_ ?_ ?_
             rotate_left 2
             · intro w' hC K hK
               have z1 := lkf_cell hC.1 nLb.out K0.out
               go_wp2_with (fail)
               refine hK _ ?_
               first | exact LkF.refl _ | exact LkF.of_ext (by assumption)
             rotate_left 1
             · rfl
             clear hex; intro hex)
          refine G.wpS_rel (OneV (wr.heap.size) (23) ([.slice (some ⟨g9, 0, none⟩) 256 256])) rfl rfl (by simp) (by first | rfl | (simp [Region.wanted, yielded]; done)) ?_ ?_
          · intro w' hC K hK
            simp only [Act.put, List.setIfInBounds_toArray, List.set_cons_succ, List.set_cons_zero] at hK
            go_wp2_with fail
            exact hK _ _ (LkF.of_ext ((Below.refl _ _).alloc (Nat.le_refl _) _)) ⟨_, rfl, Blk.new _ _ _, hC.1.1.2.2.2⟩
          clear hex
          intro v w' hex hv
          replace hex := Exists.intro w' hex
          simp only [Act.put, List.setIfInBounds_toArray, List.set_cons_succ, List.set_cons_zero]
          obtain ⟨b1, rfl, hv, hb1⟩ := hv
          clear hv
          refine G.wpS_rel (AppR wr.heap.size lb 23 1 (i + 1) (Value.slice aN i kN).ownBlock (vs ++ [.slice (some ⟨g9, 0, none⟩) 256 256])) rfl rfl (by simp) (by first | rfl | (simp [Region.wanted, yielded]; done)) ?_ ?_
          · intro w' hC K hK
            simp only [Act.put, List.setIfInBounds_toArray, List.set_cons_succ, List.set_cons_zero] at hK
            obtain ⟨b9, e9, hB9, _⟩ := (hC.2 3 (by simp [Region.binds])).1 rfl
            cases e9
            have hown' := own_lkf ON.out hC.1 (fun g N T hg hK j hj => by rw [kf2_one g hg] at hK; cases hK; exact ⟨by rw [List.length_append]; omega, by simp [List.getElem?_append_left hj]⟩)
            refine wpList_append_lko _ rfl (.tmp 61) (.tmp 63) 22 rfl lb 23 j0 _ 1 24 Tryd.underlying22 hj hy0 hy1 hy2 rfl (by decide) _ i vs rfl hown' ⟨b1, 0, none⟩ 1 1 [.slice (some ⟨g9, 0, none⟩) 256 256] rfl rfl (World.news_of_block hB9) (fun u hu => by rw [List.mem_singleton.1 hu]; rfl) (by decide) (by unfold maxLen; omega) (by omega) (Nat.le_trans hbase hC.1.1.2.2.2) ?_
            intro g8 cap8 w8 hown8 hv8 hg8 hlk8
            simp only [wpList]
            refine hK _ _ (LkF.of_lko hlk8 (kf2_one)) ⟨g8, cap8, rfl, hown8, ?_, hg8⟩
            rcases hv8 with h | h
            · exact .inl h
            · exact .inr (by have := hC.1.1.2.2.2; omega)
          clear hex
          intro v w' hex hv
          replace hex := Exists.intro w' hex
          simp only [Act.put, List.setIfInBounds_toArray, List.set_cons_succ, List.set_cons_zero]
          obtain ⟨g5, cap5, rfl, hv, hloc5, hv2⟩ := hv
          clear hv hv2
          iterate 10
            (refine G.wpS_one (A := ?_) hex rfl rfl (by simp) ?_ ?_ ?_
             rotate_left 2
             · intro w' hC K hK
               have z1 := lkf_cell hC.1 nLb.out K1.out; have z2 := lkf_cell hC.1 nB.out K2.out; have z3 := lkf_cell hC.1 nG.out K3.out; have z4 := lkf_cell hC.1 nL.out K4.out
               go_wp2_with (fail)
               refine hK _ ?_
               first | exact LkF.refl _ | exact LkF.of_ext (by assumption)
             rotate_left 1
             · rfl
             clear hex; intro hex)
          refine G.wpS_rel (OneV (wr.heap.size) (3) ([iv y])) rfl rfl (by simp) (by first | rfl | (simp [Region.wanted, yielded]; done)) ?_ ?_
          · intro w' hC K hK
            simp only [Act.put, List.setIfInBounds_toArray, List.set_cons_succ, List.set_cons_zero] at hK
            go_wp2_with fail
            exact hK _ _ (LkF.of_ext ((Below.refl _ _).alloc (Nat.le_refl _) _)) ⟨_, rfl, Blk.new _ _ _, hC.1.1.2.2.2⟩
          clear hex
          intro v w' hex hv
          replace hex := Exists.intro w' hex
          simp only [Act.put, List.setIfInBounds_toArray, List.set_cons_succ, List.set_cons_zero]
          obtain ⟨b2, rfl, hv, hb2⟩ := hv
          clear hv
          refine G.wpS_rel (AppR wr.heap.size lb 3 1 (i + 1) (Value.slice aL i kL).ownBlock (ls.map iv ++ [iv y])) rfl rfl (by simp) (by first | rfl | (simp [Region.wanted, yielded]; done)) ?_ ?_
          · intro w' hC K hK
            simp only [Act.put, List.setIfInBounds_toArray, List.set_cons_succ, List.set_cons_zero] at hK
            obtain ⟨b9, e9, hB9, _⟩ := (hC.2 15 (by simp [Region.binds])).1 rfl
            cases e9
            have hown' := own_lkf OL.out hC.1 (fun g N T hg hK j hj => by rw [kf2_two HNE.out g hg] at hK; cases hK; exact ⟨by rw [List.length_append]; omega, by simp [List.getElem?_append_left hj]⟩)
            refine wpList_append_lko _ rfl (.tmp 66) (.tmp 75) 23 rfl lb 3 i0 _ 1 8 Tryd.underlying23 hi hz0 hz1 hz2 rfl (by decide) _ i (ls.map iv) rfl hown' ⟨b2, 0, none⟩ 1 1 [iv y] rfl rfl (World.news_of_block hB9) (iv_one _) (by decide) (by unfold maxLen; omega) (by omega) (Nat.le_trans hbase hC.1.1.2.2.2) ?_
            intro g8 cap8 w8 hown8 hv8 hg8 hlk8
            simp only [wpList]
            refine hK _ _ (LkF.of_lko hlk8 (kf2_two HNE.out)) ⟨g8, cap8, rfl, hown8, ?_, hg8⟩
            rcases hv8 with h | h
            · exact .inl h
            · exact .inr (by have := hC.1.1.2.2.2; omega)
          clear hex
          intro v w' hex hv
          replace hex := Exists.intro w' hex
          simp only [Act.put, List.setIfInBounds_toArray, List.set_cons_succ, List.set_cons_zero]
          obtain ⟨g6, cap6, rfl, hv, hloc6, hv2⟩ := hv
          clear hv hv2
          refine G.wpS_one (A := ?_) hex rfl rfl (by simp) ?_ ?_ ?_
          rotate_left 2
          · intro w' hC K hK
            go_wp2_with (fail)
            refine hK _ ?_
            first | exact LkF.refl _ | exact LkF.of_ext (by assumption)
          rotate_left 1
          · rfl
          clear hex; intro hex
          refine G.wpS_nil fun w8 hAll => ?_
          obtain ⟨g6', cap6', e6, o6, _, _⟩ := (hAll.2 16).1 rfl
          cases e6
          obtain ⟨g5', cap5', e5, o5, _, _⟩ := (hAll.2 4).2.2.1 rfl
          cases e5
          have HK8 := Lib.hid hAll.1
          have B8 := hAll.1.blk LQ.out.nb nLb.out
          have x0' := B8.cell 0
          have f0 := B8.free 0
          have x1' := (B8.set 0 (.slice (some ⟨g5, 0, none⟩) (i + 1) cap5)).cell 1
          have f1 := (B8.set 0 (.slice (some ⟨g5, 0, none⟩) (i + 1) cap5)).free 1
          have L9 := Lib.hid (ls_next LQ.out (s := s) (by rw [HFE.out]; exact HSE.out) (by rw [HLS.out, HYY.out]; exact hAll.1) o5 (by rw [HLS.out, HYY.out]; exact o6) hloc5 hloc6)
          have BW9 := Lib.hid (show Below lb w1 ((w8.setCell ⟨lb, 0, none⟩ (.slice (some ⟨g5, 0, none⟩) (i + 1) cap5)).setCell ⟨lb, 1, none⟩ (.slice (some ⟨g6, 0, none⟩) (i + 1) cap6)) from
            ((Below.trans BW.out (hAll.1.below hbase (fun k hk => HKB.out k hk))).setCell (p := ⟨lb, 0, none⟩) (by show lb ≤ lb; omega) _).setCell (p := ⟨lb, 1, none⟩) (by show lb ≤ lb; omega) _)
          have J9 := Lib.hid (show ∀ j, j < i + 1 → j < (bfsF d.to (fun s => C.getD s 0) (256 * j)).length from fun j hj => by
            rcases Nat.lt_or_ge j i with q | q
            · exact hJ.out j q
            · obtain rfl : j = i := by omega
              rw [HFE.out]; exact hil)
          clear hAll hex o5 o6 hloc5 hloc6 HK8 B8 K0 K1 K2 K3 K4 nLb nB nL nG ON OL LQ
          go_wp2_with fail
          go_roundw
          case rel => exact ⟨i + 1, by omega, by go_num, _, _, _, L9, J9, BW9⟩
          case measure => simp [intOf]; omega
    · have hiF : F.length = i := by
        rcases Nat.eq_zero_or_pos i with q | q
        · omega
        · have h1 := hJ.out (i - 1) (by omega)
          have h2 : (bfsF d.to (fun s => C.getD s 0) (256 * (i - 1))).length ≤ F.length := by rw [← HFE.out]; exact bfs_len_mono (by omega)
          omega
      have HCN := Lib.hid (bfsD_canon (S := fun s => s < n) (cl := fun s => C.getD s 0) (lab := d.lab) h0 (fun s c hs hc => HTO.out s c hs hc) (fun _ h => h) h6 (fun s hs => HD.out.lab s (by rw [HN.out]; exact hs)) (fun s t hs ht => HE.out s t hs ht) (N := i) (by rw [HFE.out]; exact hiF) hJ.out)
      have OD := hL.out.od
      have ON := OD.rn
      have OL := OD.rl
      obtain ⟨aN, kN, rfl⟩ := own_shp ON
      obtain ⟨aL, kL, rfl⟩ := own_shp OL
      have q0 := hL.out.nb.cell 0
      have q1 := hL.out.nb.cell 1
      rw [bfsD_len.1] at OD q0
      rw [bfsD_len.2] at OD q1
      have BR := HR.out.below hB.out (by omega)
      have f0 := BR.free 0
      have f1 := (BR.set 0 (.slice aN i kN)).free 1
      have p0 := BR.cell 0
      have p1 := (BR.set 0 (.slice aN i kN)).cell 1
      have BF := (BR.set 0 (.slice aN i kN)).set 1 (.slice aL i kL)
      have r0 := BF.cell 0
      have r1 := BF.cell 1
      have OD9 := Lib.hid (((OD.put (k := 0) (u := .slice aN i kN) (show w.heap.size + 1 < lb by omega)).put (k := 1) (u := .slice aL i kL) (show w.heap.size + 1 < lb by omega)).mono (show w.heap.size ≤ lb by omega))
      have EX9 := Lib.hid (show Ext w ((wr.setCell ⟨w.heap.size + 1, 0, none⟩ (.slice aN i kN)).setCell ⟨w.heap.size + 1, 1, none⟩ (.slice aL i kL)) from
        ((Below.trans E1.out (show Below w.heap.size w1 wr from ⟨hB.out.os, hB.out.tape, hB.out.output, hB.out.size, fun k hk => hB.out.block k (by omega)⟩)).setCell (p := ⟨w.heap.size + 1, 0, none⟩) (by show w.heap.size ≤ w.heap.size + 1; omega) _).setCell (p := ⟨w.heap.size + 1, 1, none⟩) (by show w.heap.size ≤ w.heap.size + 1; omega) _)
      clear OD ON OL BF BR FO hJ
      go_wp2_with fail
      refine bodyPost_ret (v := .agg #[.slice aN i kN, .slice aL i kL]) (by simp [results, Tryd.results64, go_sem, r0, r1]) rfl ⟨_, _, _, _, rfl, HCN.out, OD9.out, EX9.out⟩
end Go.Proofs.YtniamfaiamgncaaDoor
namespace Go.Proofs.YtniamfaiamgncaaDoor
open Go Go.RowKit
theorem info_dns : (Tryd.prog.info? 25).map (·.size) = some 2 := by kernel_rfl
def RCl (n : Nat) (E : Nat → Nat → Prop) (v : Value) (w : World) : Prop := ∃ c, Ints w v c ∧ ClsOk n E c
def RLs (B : Nat) (f : List Nat → Int) (v : Value) (w : World) : Prop := ∃ m vN vL vs, v = .agg #[vN, vL] ∧ Canon m f ∧ OwnD w B vN vL vs m
theorem RCl_ext (n : Nat) (E : Nat → Nat → Prop) : G.Mono Ext (RCl n E) := fun _ _ _ hx ⟨c, h1, h2⟩ => ⟨c, h1.ext hx, h2⟩
theorem OwnD.ext {w w' : World} {B : Nat} {vN vL : Value} {vs : List Value} {m : Dd} (h : OwnD w B vN vL vs m) (hx : Ext w w') : OwnD w' B vN vL vs m :=
  ⟨own_ex h.rn hx, own_ex h.rl hx, fun j hj => own_ex (h.en j hj) hx, h.dl, h.dd⟩
theorem RLs_ext (B : Nat) (f : List Nat → Int) : G.Mono Ext (RLs B f) := fun _ _ _ hx ⟨m, vN, vL, vs, e, h1, h2⟩ => ⟨m, vN, vL, vs, e, h1, h2.ext hx⟩
def RsM (a b : Nat) (R1 R2 : Value → World → Prop) : Nat → Option (Value → World → Prop) := fun j => if j = a then some R1 else if j = b then some R2 else none
theorem RsM_mono {Z : World → World → Prop} {a b : Nat} {R1 R2 : Value → World → Prop} (h1 : G.Mono Z R1) (h2 : G.Mono Z R2) : G.RsMono Z (RsM a b R1 R2) := by
  intro j R h
  unfold RsM at h
  split at h
  · cases h; exact h1
  · split at h
    · cases h; exact h2
    · cases h
set_option maxHeartbeats 2000000 in
set_option maxRecDepth 20000 in
theorem least_ok (d : Dd) (v : Value) (w : World) (hd : d.Ok) (h : Dns w v d) :
    Calls Tryd.prog 29 #[v] w fun e w' => ∃ m vN vL vs, e = .returned (.tuple #[.agg #[vN, vL], .nilIface]) ∧ Canon m (d.beh 0) ∧ OwnD w' w.heap.size vN vL vs m ∧ Ext w w' := by
  have hb := okB_ok.2 hd
  obtain ⟨a, b, rfl, h1, h2⟩ := h
  have h0 : Dns w (.agg #[a, b]) d := ⟨a, b, rfl, h1, h2⟩
  obtain ⟨p, cap, rfl, _⟩ := h1.shape
  obtain ⟨p2, cap2, rfl, _⟩ := h2.shape
  have HE := Lib.hid (show Ext w ((w.alloc (.cells #[.slice p d.nx.length cap, .slice p2 d.lb.length cap2] 25)).alloc (.cells #[nilS, nilS] 25)) by go_grown)
  have HBX := Lib.hid ((Blk.new w #[.slice p d.nx.length cap, .slice p2 d.lb.length cap2] 25).alloc (.cells #[nilS, nilS] 25))
  have HR := Lib.hid (Blk.new (w.alloc (.cells #[.slice p d.nx.length cap, .slice p2 d.lb.length cap2] 25)) #[nilS, nilS] 25)
  rw [show (w.alloc (.cells #[.slice p d.nx.length cap, .slice p2 d.lb.length cap2] 25)).heap.size = w.heap.size + 1 by simp] at HR
  have HD := Lib.hid (h0.ext HE.out)
  have HO := Lib.hid hd
  have C1 := checkd_any d _ _ HD.out
  rw [hb] at C1
  have C1 := Lib.hid C1
  have hq0 := HBX.out.cell 0
  have hq1 := HBX.out.cell 1
  clear h0 h1 h2 hd hb
  go_enter Tryd.func29, Tryd.ntmps29
  go_wp2_with fail
  refine C1.out.mono ?_; rintro e w1 ⟨rfl, E1⟩
  have hq0 := (HBX.out.ext E1).cell 0
  have hq1 := (HBX.out.ext E1).cell 1
  have HBX := Lib.hid (HBX.out.ext E1)
  have HR := Lib.hid (HR.out.ext E1)
  have HD := Lib.hid (HD.out.ext E1)
  have E1 := Lib.hid (bel_call HE.out E1)
  clear HE C1
  go_upto_region 3 with fail
  refine G.wp_region_tail (G := Ext) (RsM 2 3 (RCl d.nx.length (fun i k => Beq (d.beh i) (d.beh k))) (RLs w1.heap.size (d.beh 0))) 4 (by kernel_rfl) (by kernel_rfl) (RsM_mono (RCl_ext _ _) (RLs_ext _ _)) (fun hex => ?_)
  simp only [List.take_succ_cons, List.take_zero, List.drop_succ_cons, List.drop_zero]
  iterate 2
    (refine G.wpS_one (A := ?_) hex rfl rfl (by simp) ?_ ?_ ?_
     rotate_left 2
     · intro w' hC K hK
       have z0 := (HBX.out.ext hC.1).cell 0; have z1 := (HBX.out.ext hC.1).cell 1
       go_wp2_with (fail)
       refine hK _ ?_
       exact Below.refl _ _
     rotate_left 1
     · rfl
     clear hex; intro hex)
  refine G.wpS_rel (RCl d.nx.length (fun i k => Beq (d.beh i) (d.beh k))) rfl rfl (by simp) (by first | rfl | (simp [Region.wanted, yielded]; done)) ?_ ?_
  · intro w' hC K hK
    simp only [Act.put, List.setIfInBounds_toArray, List.set_cons_succ, List.set_cons_zero] at hK
    go_wp2_with fail
    refine (classesof_any d _ w' HO.out (HD.out.ext hC.1)).mono ?_
    rintro e w2 ⟨v', c, rfl, ho, hc, hcb, hx⟩
    go_wp2_with fail
    exact hK _ _ hx ⟨c, ⟨Slc.of_own ho (by have := hc.len; have := HO.out.le; omega), fun x hx => by have := hcb x hx; omega⟩, hc⟩
  clear hex
  intro v w' hex hv
  replace hex := Exists.intro w' hex
  obtain ⟨c, hci, hc⟩ := hv
  obtain ⟨p3, cap3, e3, _⟩ := hci.shape
  rw [hc.len] at e3
  subst e3
  clear hci
  simp only [Act.put, List.setIfInBounds_toArray, List.set_cons_succ, List.set_cons_zero]
  refine G.wpS_rel (RLs w1.heap.size (d.beh 0)) rfl rfl (by simp) (by first | rfl | (simp [Region.wanted, yielded]; done)) ?_ ?_
  · intro w' hC K hK
    simp only [Act.put, List.setIfInBounds_toArray, List.set_cons_succ, List.set_cons_zero] at hK
    obtain ⟨c', hci', hc'⟩ := (hC.2 2 (by simp [Region.binds])).1 rfl
    go_wp2_with fail
    refine (least0_any d c' _ _ w' HO.out (HD.out.ext hC.1) hci' hc'.len (fun s t hs ht => hc'.eq s t hs ht)).mono ?_
    rintro e w2 ⟨m, vN, vL, vs, rfl, hm, ho, hx⟩
    go_wp2_with fail
    exact hK _ _ hx ⟨m, vN, vL, vs, rfl, hm, ho.mono hC.1.size⟩
  clear hex
  intro v w' hex hv
  replace hex := Exists.intro w' hex
  obtain ⟨m0, vN, vL, vs0, rfl, _, hod⟩ := hv
  obtain ⟨aN, kN, rfl⟩ := own_shp hod.rn
  obtain ⟨aL, kL, rfl⟩ := own_shp hod.rl
  clear hod
  simp only [Act.put, List.setIfInBounds_toArray, List.set_cons_succ, List.set_cons_zero]
  refine G.wpS_nil fun w8 hAll => ?_
  obtain ⟨m, vN, vL, vs, e3, hm, ho⟩ := (hAll.2 3).1 rfl
  cases e3
  have BR := HR.out.ext hAll.1
  have f0 := BR.free 0
  have p0 := BR.cell 0
  have p1 := (BR.set 0 (.slice aN m0.nx.length kN)).cell 1
  have f1 := (BR.set 0 (.slice aN m0.nx.length kN)).free 1
  have BF := (BR.set 0 (.slice aN m0.nx.length kN)).set 1 (.slice aL m0.lb.length kL)
  have r0 := BF.cell 0
  have r1 := BF.cell 1
  have hsz : w.heap.size + 1 < w1.heap.size := HR.out.lt
  have OD9 := Lib.hid (((ho.put (k := 0) (u := .slice aN m0.nx.length kN) hsz).put (k := 1) (u := .slice aL m0.lb.length kL) hsz).mono (show w.heap.size ≤ w1.heap.size by omega))
  have EX9 := Lib.hid (show Ext w ((w8.setCell ⟨w.heap.size + 1, 0, none⟩ (.slice aN m0.nx.length kN)).setCell ⟨w.heap.size + 1, 1, none⟩ (.slice aL m0.lb.length kL)) from
    ((bel_call E1.out hAll.1).setCell (p := ⟨w.heap.size + 1, 0, none⟩) (by show w.heap.size ≤ w.heap.size + 1; omega) _).setCell (p := ⟨w.heap.size + 1, 1, none⟩) (by show w.heap.size ≤ w.heap.size + 1; omega) _)
  have HM := Lib.hid hm
  clear hAll hex ho BR BF hm
  go_wp2_with fail
  refine bodyPost_ret (v := .tuple #[.agg #[.slice aN m0.nx.length kN, .slice aL m0.lb.length kL], .nilIface]) (by simp [results, Tryd.results29, go_sem, r0, r1]) rfl ⟨m, _, _, _, rfl, HM.out, OD9.out, EX9.out⟩
end Go.Proofs.YtniamfaiamgncaaDoor
