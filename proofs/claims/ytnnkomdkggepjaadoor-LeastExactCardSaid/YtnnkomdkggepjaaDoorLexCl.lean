/- LeastExact returns true for every list of automata, and leaves what it read as it was: on the conditions that the errors which the card ties to the program's text, and errors.errorType, stand in their variables when the call begins. -/
import Derived.Test.YtnnkomdkggepjaaDoorLst2
import Derived.Test.YtnnkomdkggepjaaDoorCpe
import Derived.Test.YtnnkomdkggepjaaDoorSpl
import Derived.Test.YtnnkomdkggepjaaDoorBfp
import Derived.Test.YtnnkomdkggepjaaDoorMay
import Derived.Test.YtnnkomdkggepjaaDoorTell
import Derived.Test.YtnnkomdkggepjaaDoorMade
import Derived.Test.YtnnkomdkggepjaaDoorStabG
import Derived.Test.YtnnkomdkggepjaaDoorRows
import Derived.ProofKit
import Derived.LaidMore
import Derived.LaidLaws
import Derived.LaidHandle
import Derived.OpenShut
import Derived.Stop.Joined
import Derived.Deep.Strs
import Derived.Lib.LaidTab
import Derived.Carry
import Derived.Test.YtnnkomdkggepjaaDoorWkk
import Derived.Test.YtnnkomdkggepjaaDoorEqr
import Derived.Test.YtnnkomdkggepjaaDoorDen
import Derived.Test.YtnnkomdkggepjaaDoorTie
import Derived.Test.YtnnkomdkggepjaaDoorCards
import Derived.SevenTiedAt
import Derived.Deep.Slices
import Derived.Deep.DeepWitnessRowRef
import Derived.Deep.DeepHandedRow
namespace Go.Proofs.YtnnkomdkggepjaaDoor
open Go Go.RowKit
/-- From class to class. -/
def tn (d : Dd) (C : List Nat) (s c : Nat) : Nat := C.getD (d.to s c) 0
abbrev ci (s : Nat) : Int := (s : Int)
section
variable {d : Dd} {n : Nat} {C : List Nat}
def Rep (n : Nat) (C : List Nat) (s : Nat) : Prop := s < n ∧ C.getD s 0 = s
theorem rep_of (h : Fin12 d n C) {t : Nat} (ht : t < n) : Rep n C (C.getD t 0) := ⟨Nat.lt_of_le_of_lt (h.le t ht) ht, h.idem t ht⟩
theorem rep_tn (hd : d.Ok) (hn : d.nx.length = n) (h : Fin12 d n C) {s c : Nat} (hs : Rep n C s) (hc : c < 256) : Rep n C (tn d C s c) :=
  rep_of h (by rw [← hn]; exact hd.to (by have := hs.1; omega) hc)
theorem rep_zero (h : Fin12 d n C) (hp : 0 < n) : Rep n C 0 := ⟨hp, by have := h.le 0 hp; omega⟩
theorem tn_beh (hd : d.Ok) (hn : d.nx.length = n) (h : Fin12 d n C) : ∀ s t, Rep n C s ∧ t < n ∧ C.getD t 0 = s → Beq (behA (tn d C) d.lab s) (behA d.to d.lab t) := by
  refine beq_of_cong (fun s t => Rep n C s ∧ t < n ∧ C.getD t 0 = s) (fun s t q => ?_) (fun s t c q hc => ?_)
  · exact ((h.eq s t q.1.1 q.2.1).1 (by rw [q.1.2, q.2.2])).lab
  · have h1 : d.to t c < n := by rw [← hn]; exact hd.to (by have := q.2.1; omega) hc
    have h2 : d.to s c < n := by rw [← hn]; exact hd.to (by have := q.1.1; omega) hc
    exact ⟨rep_tn hd hn h q.1 hc, h1, (h.eq _ _ h1 h2).2 ((((h.eq s t q.1.1 q.2.1).1 (by rw [q.1.2, q.2.2])).step hc).symm)⟩
theorem ler_canon (hd : d.Ok) (hn : d.nx.length = n) (h : Fin12 d n C) {N : Nat} (hN : (bfsF (tn d C) ci (256 * N)).length = N) (hlt : ∀ i, i < N → i < (bfsF (tn d C) ci (256 * i)).length) :
    Canon (bfsD (tn d C) ci d.lab N) (d.beh 0) := by
  have hp := hd.pos
  have h6 := hd.le
  have hb : ∀ s, Rep n C s → Beq (behA (tn d C) d.lab s) (d.beh s) := fun s hs => tn_beh hd hn h s s ⟨hs, hs.1, hs.2⟩
  have key : Canon (bfsD (tn d C) ci d.lab N) (behA (tn d C) d.lab 0) := bfsD_canon (S := Rep n C) (n := n) (rep_zero h (by omega)) (fun s c hs hc => rep_tn hd hn h hs hc) (fun s hs => hs.1) (by omega) (fun s hs => hd.lab s (by have := hs.1; omega))
    (fun s t hs ht => by
      have e := h.eq s t hs.1 ht.1
      rw [hs.2, ht.2] at e
      constructor
      · intro q
        have q : (s : Int) = (t : Int) := q
        have q : s = t := by omega
        subst q; exact Beq.refl _
      · intro q
        rw [show s = t from e.2 (((hb s hs).symm.trans q).trans (hb t ht))])
    (N := N) hN hlt
  exact ⟨key.ok, key.start.trans (hb 0 (rep_zero h (by omega))), key.apart, key.num, key.found⟩
theorem ci_mem {F : List Nat} {t : Nat} : ci t ∈ F.map ci ↔ t ∈ F := by
  rw [List.mem_map]
  constructor
  · rintro ⟨x, hx, e⟩
    have e : (x : Int) = (t : Int) := e
    have : x = t := by omega
    rw [← this]; exact hx
  · intro h; exact ⟨t, h, rfl⟩
theorem ci_idx : ∀ (F : List Nat) (t : Nat), (F.map ci).idxOf (ci t) = F.idxOf t
  | [], _ => rfl
  | x :: F, t => by
    rw [List.map_cons, List.idxOf_cons, List.idxOf_cons, ci_idx F t]
    have : (ci x == ci t) = (x == t) := by
      by_cases e : x = t
      · simp [e]
      · rw [beq_eq_false_iff_ne.2 e, beq_eq_false_iff_ne.2 (fun q => e (by have q : (x : Int) = (t : Int) := q; omega))]
    rw [this]
theorem idx_first : ∀ {F : List Nat} {t j : Nat}, j < F.length → F.getD j 0 = t → (∀ b, b < j → F.getD b 0 ≠ t) → F.idxOf t = j
  | [], _, _, h, _, _ => absurd h (by simp)
  | x :: F, t, 0, _, e, _ => by
    rw [List.idxOf_cons]
    have : x = t := by simpa using e
    rw [this, beq_self_eq_true]; rfl
  | x :: F, t, j + 1, h, e, hb => by
    have h0 : x ≠ t := by have := hb 0 (by omega); simpa using this
    rw [List.idxOf_cons, idx_first (F := F) (t := t) (j := j) (by simpa using h) (by simpa using e) (fun b hbj => by have := hb (b + 1) (by omega); simpa using this), beq_eq_false_iff_ne.2 h0]; rfl
theorem mem_first {F : List Nat} {t j : Nat} (h : j < F.length) (e : F.getD j 0 = t) : t ∈ F := by
  rw [getD_get h] at e; rw [← e]; exact List.getElem_mem h
theorem not_mem {F : List Nat} {t : Nat} (hb : ∀ b, b < F.length → F.getD b 0 ≠ t) : t ∉ F := fun h => by
  obtain ⟨b, hbl, e⟩ := List.getElem_of_mem h
  exact hb b hbl (by rw [getD_get hbl, e])
variable {F : List Nat} {dl : Nat → Nat → Nat} {k t j : Nat}
theorem ler_in (hF : bfsF dl ci k = F) (ht : dl (F.getD (k / 256) 0) (k % 256) = t) (hj : j < F.length) (e : F.getD j 0 = t) (hb : ∀ b, b < j → F.getD b 0 ≠ t) : bfsF dl ci (k + 1) = F ∧ bfsE dl ci k = (j : Int) := by
  have hm := ci_mem.2 (mem_first hj e)
  constructor
  · rw [bfsF, hF, ht]; unfold fad; rw [if_pos hm]
  · unfold bfsE; rw [hF, ht, nad_in hm, ci_idx, idx_first hj e hb]
theorem ler_out (hF : bfsF dl ci k = F) (ht : dl (F.getD (k / 256) 0) (k % 256) = t) (hb : ∀ b, b < F.length → F.getD b 0 ≠ t) : bfsF dl ci (k + 1) = F ++ [t] ∧ bfsE dl ci k = (F.length : Int) := by
  have hm : ci t ∉ F.map ci := fun q => not_mem hb (ci_mem.1 q)
  constructor
  · rw [bfsF, hF, ht]; unfold fad; rw [if_neg hm]
  · unfold bfsE; rw [hF, ht, nad_out hm, idx_out hm, List.length_map]
end
/-- Lists of numbers of one's own, apart from each other. -/
structure Fam (w : World) (B : Nat) (L : List (Value × List Int)) : Prop where
  en : ∀ p ∈ L, w.ownsRow B 3 1 p.1 p.2.length (p.2.map iv)
  dj : L.Pairwise fun p q => Dj p.1 q.1
section
variable {w w' : World} {B : Nat} {L L' : List (Value × List Int)}
theorem Dj.symm {u v : Value} (h : Dj u v) : Dj v u := fun g a b => h g b a
theorem Fam.ext (h : Fam w B L) (hx : Ext w w') : Fam w' B L := ⟨fun p hp => own_ex (h.en p hp) hx, h.dj⟩
theorem Fam.perm (h : Fam w B L) (hp : L.Perm L') : Fam w B L' := ⟨fun p q => h.en p (hp.mem_iff.2 q), (hp.pairwise_iff (fun h => h.symm)).1 h.dj⟩
theorem Fam.nil (h : Fam w B L) : Fam w B ((.slice none 0 0, []) :: L) :=
  ⟨fun p q => by
    rcases List.mem_cons.1 q with rfl | q
    · exact own_nil _ _ _ _
    · exact h.en p q, List.pairwise_cons.2 ⟨fun p _ g q => (by cases q), h.dj⟩⟩
/-- The first one grows. -/
theorem Fam.grow {v v' : Value} {xs : List Int} {x : Int} {w2 : World} (h : Fam w B ((v, xs) :: L)) (hx : Ext w w2) (hg : w2.grownBy w' v.ownBlock) (ho : w'.ownsRow B 3 1 v' (xs.length + 1) (xs.map iv ++ [iv x]))
    (hl : v'.ownBlock = v.ownBlock ∨ v'.ownBlock = some w2.heap.size) : Fam w' B ((v', xs ++ [x]) :: L) := by
  obtain ⟨hp, hL⟩ := List.pairwise_cons.1 h.dj
  refine ⟨fun p q => ?_, List.pairwise_cons.2 ⟨fun p q => ?_, hL⟩⟩
  · rcases List.mem_cons.1 q with rfl | q
    · simpa using ho
    · refine (own_ex (h.en p (List.mem_cons_of_mem _ q)) hx).kept hg ?_
      cases hq : p.1.ownBlock with
      | none => exact .inl rfl
      | some g => exact .inr (fun e => hp p q g e.symm hq)
  · rcases hl with e | e
    · intro g a b; rw [e] at a; exact hp p q g a b
    · intro g a b
      rw [e] at a
      have := (World.ownsRow.lt (h.en p (List.mem_cons_of_mem _ q)) g b).2
      have h2 := hx.size
      have := Option.some.inj a
      omega
/-- A write beside, or an append to a list of another kind. -/
theorem Fam.kept {w2 : World} {o : Option Nat} (h : Fam w B L) (hx : Ext w w2) (hg : w2.grownBy w' o) (hne : ∀ g, o = some g → ∀ p ∈ L, p.1.ownBlock ≠ some g) : Fam w' B L :=
  ⟨fun p q => (own_ex (h.en p q) hx).kept hg (by
      cases hq : p.1.ownBlock with
      | none => exact .inl rfl
      | some g => exact .inr (fun e => hne g e.symm p q hq)), h.dj⟩
end
end Go.Proofs.YtnnkomdkggepjaaDoor
namespace Go.Proofs.YtnnkomdkggepjaaDoor
open Go Go.RowKit
/-- The numbers given so far. -/
def kn (C : List Nat) (i : Nat) : List Int := ((nj C).take i).foldl nad []
section
variable {d : Dd} {n i : Nat} {C N : List Nat}
theorem kn_succ (h : i < C.length) : kn C (i + 1) = nad (kn C i) ((C.getD i 0 : Nat) : Int) := by
  unfold kn
  rw [List.take_succ_eq_append_getElem (by rw [nj_len]; exact h), List.foldl_append]
  show nad _ _ = _
  rw [nj_get (by rw [nj_len]; exact h)]
theorem kn_mem {x : Int} : x ∈ kn C i ↔ ∃ a, a < i ∧ a < C.length ∧ x = ((C.getD a 0 : Nat) : Int) := by
  unfold kn
  rw [nums_mem]
  constructor
  · rintro (h | h)
    · cases h
    · obtain ⟨a, ha, e⟩ := List.getElem_of_mem h
      have ha2 := ha
      rw [List.length_take, nj_len] at ha2
      refine ⟨a, by omega, by omega, ?_⟩
      rw [← e, List.getElem_take, nj_get]
  · rintro ⟨a, h1, h2, e⟩
    refine .inr ?_
    have h3 : a < ((nj C).take i).length := by rw [List.length_take, nj_len]; omega
    have e2 : ((nj C).take i)[a] = x := by rw [List.getElem_take, nj_get (by rw [nj_len]; exact h2), e]
    rw [← e2]; exact List.getElem_mem h3
theorem kn_idx {j : Nat} {x : Int} (_hj : j ≤ C.length) (hx : x ∈ kn C j) : (kn C C.length).idxOf x = (kn C j).idxOf x := by
  have e : kn C C.length = ((nj C).drop j).foldl nad (kn C j) := by
    unfold kn
    rw [← List.foldl_append, List.take_append_drop, List.take_of_length_le (by rw [nj_len]; omega)]
  obtain ⟨R, h⟩ := nums_ext ((nj C).drop j) (kn C j)
  rw [e, h, idx_ext hx]
theorem kn_len (C : List Nat) : ∀ i, (kn C i).length ≤ i
  | 0 => by simp [kn]
  | i + 1 => by
    by_cases h : i < C.length
    · rw [kn_succ h]; unfold nad; have := kn_len C i
      split
      · omega
      · simp; omega
    · have := kn_len C i
      unfold kn at this ⊢
      rw [List.take_of_length_le (by rw [nj_len]; omega)] at this ⊢; omega
/-- What num holds. -/
def NI (C N : List Nat) (i : Nat) : Prop := ∀ j, j < i → C.getD j 0 = j → N.getD j 0 = (kn C C.length).idxOf ((j : Nat) : Int)
theorem fresh (h : Fin12 d n C) (hi : i < n) (he : C.getD i 0 = i) : ((i : Nat) : Int) ∉ kn C i := by
  rw [kn_mem]
  rintro ⟨a, h1, h2, e⟩
  have := h.le a (by omega)
  omega
theorem known (h : Fin12 d n C) (hi : i < n) (he : C.getD i 0 ≠ i) : ((C.getD i 0 : Nat) : Int) ∈ kn C i := by
  rw [kn_mem]
  have h1 := h.le i hi
  have hl := h.len
  exact ⟨C.getD i 0, by omega, by omega, by rw [h.idem i hi]⟩
theorem NI.new (h : Fin12 d n C) (hN : NI C N i) (hl : N.length = n) (hi : i < n) (he : C.getD i 0 = i) : NI C (N.set i (kn C i).length) (i + 1) := by
  intro j hj hjj
  have hcl := h.len
  rw [getD_setn (by omega)]
  by_cases e : j = i
  · subst e
    rw [if_pos rfl]
    have hf := fresh h hi he
    have hs := kn_succ (C := C) (i := j) (by omega)
    rw [he, nad_out hf] at hs
    rw [kn_idx (j := j + 1) (by omega) (by rw [hs]; simp), hs, idx_out hf]
  · rw [if_neg e]; exact hN j (by omega) hjj
theorem NI.old (_h : Fin12 d n C) (hN : NI C N i) (he : C.getD i 0 ≠ i) : NI C N (i + 1) := by
  intro j hj hjj
  by_cases e : j = i
  · subst e; exact absurd hjj he
  · exact hN j (by omega) hjj
theorem kn_new (h : Fin12 d n C) (hi : i < n) (he : C.getD i 0 = i) : (kn C (i + 1)).length = (kn C i).length + 1 := by
  have hcl := h.len
  rw [kn_succ (by omega), he, nad_out (fresh h hi he)]; simp
theorem kn_old (h : Fin12 d n C) (hi : i < n) (he : C.getD i 0 ≠ i) : (kn C (i + 1)).length = (kn C i).length := by
  have hcl := h.len
  rw [kn_succ (by omega), nad_in (known h hi he)]
theorem ren_at (h : Fin12 d n C) (hN : NI C N (i + 1)) (hi : i < n) : ((ren (nj C)).take (i + 1)).map iv = ((ren (nj C)).take i).map iv ++ [iv ((N.getD (C.getD i 0) 0 : Nat) : Int)] := by
  have hcl := h.len
  have hl : i < (ren (nj C)).length := by simp [ren, nj_len]; omega
  rw [List.take_succ_eq_append_getElem hl, List.map_append, hN _ (Nat.lt_succ_of_le (h.le i hi)) (h.idem i hi)]
  simp only [ren, List.getElem_map, List.map_cons, List.map_nil]
  rw [nj_get (by rw [nj_len]; omega)]
  unfold kn
  have e : List.take C.length (nj C) = nj C := List.take_of_length_le (by rw [nj_len]; omega)
  rw [e]
theorem fin_cls (h : Fin12 d n C) : ClsOk n (fun i k => Beq (d.beh i) (d.beh k)) (ren (nj C)) := by
  refine ren_cls (by rw [nj_len, h.len]) fun i k hi hk => ?_
  have hcl := h.len
  rw [getD_get (by rw [nj_len]; omega), getD_get (by rw [nj_len]; omega), nj_get (by rw [nj_len]; omega), nj_get (by rw [nj_len]; omega), ← h.eq i k hi hk]
  omega
end
end Go.Proofs.YtnnkomdkggepjaaDoor
namespace Go.Proofs.YtnnkomdkggepjaaDoor
open Go Go.RowKit
/-- No fault. -/
def nof : Value := .agg #[.int .i64 0, .int .i64 0, .int .i64 0, .int .i64 0, .slice none 0 0]
def nofc : Array Value := #[.int .i64 0, .int .i64 0, .int .i64 0, .int .i64 0, .slice none 0 0]
theorem set_same {w : World} {b i : Nat} {vs : Array Value} {t : TypeId} {v : Value} (h : Blk w b vs t) (hv : vs[i]? = some v) : w.setCell ⟨b, i, none⟩ v = w := by
  have e : vs.setIfInBounds i v = vs := by
    apply Array.ext_getElem?
    intro j
    rw [Array.getElem?_setIfInBounds]
    split
    · rename_i e; subst e
      split
      · exact hv.symm
      · rename_i hn; rw [Array.getElem?_eq_none (by omega)]
    · rfl
  have hh : w.heap.modify b (fun
      | .cells c elem frozen => .cells (if ((⟨b, i, none⟩ : Addr).spot).isSome then c else c.setIfInBounds i v) elem frozen
      | o => o) = w.heap := by
    apply Array.ext_getElem?
    intro j
    rw [Array.getElem?_modify]
    split
    · rename_i e; subst e
      unfold Blk at h
      rw [h]
      show some (Obj.cells (vs.setIfInBounds i v) t (0, 0)) = _
      rw [e]
    · rfl
  have e2 : w.setCell ⟨b, i, none⟩ v = { w with heap := w.heap.modify b (fun
      | .cells c elem frozen => .cells (if ((⟨b, i, none⟩ : Addr).spot).isSome then c else c.setIfInBounds i v) elem frozen
      | o => o) } := by unfold World.setCell; rfl
  rw [e2, hh]
set_option maxHeartbeats 4000000 in
set_option maxRecDepth 20000 in
theorem clr_ok (d : Dd) (v : Value) (w : World) (hd : d.Ok) (h : Dns w v d) :
    Calls Tryd.prog 6 #[v] w fun e w' => ∃ v' c, e = .returned (.tuple #[v', nof]) ∧ w'.ownsRow w.heap.size 3 1 v' c.length (c.map iv) ∧ ClsOk d.nx.length (fun i k => Beq (d.beh i) (d.beh k)) c ∧ Ext w w' := by
  have h0 := h
  have hb := okB_ok.2 hd
  obtain ⟨a, b, rfl, h1, h2⟩ := h
  obtain ⟨p, cap, rfl, _⟩ := h1.shape
  obtain ⟨p2, cap2, rfl, _⟩ := h2.shape
  obtain ⟨n, hn⟩ : ∃ n, d.nx.length = n := ⟨_, rfl⟩
  have hl : d.lb.length = n := by rw [hd.lbl, hn]
  have h6 := hd.le
  have hp := hd.pos
  rw [hn] at h1 h0 h6 hp ⊢
  rw [hl] at h2 h0 ⊢
  have HEB := Lib.hid (bel_call (ext_box w #[.slice p n cap, .slice p2 n cap2] 26) (show Ext _ ((w.alloc (.cells #[.slice p n cap, .slice p2 n cap2] 26)).alloc (.cells nofc 30)) from by go_grown))
  have HBX := Lib.hid ((Blk.new w #[.slice p n cap, .slice p2 n cap2] 26).alloc (.cells nofc 30))
  have HBF := Lib.hid (Blk.new (w.alloc (.cells #[.slice p n cap, .slice p2 n cap2] 26)) nofc 30)
  have HD := Lib.hid (h0.ext HEB.out)
  have HO := Lib.hid hd
  have HN := Lib.hid hn
  have HM := may_any d _ _ HD.out
  rw [hb] at HM
  have HM := Lib.hid HM
  clear h1 h2 h0 hd hn hl hb
  obtain ⟨i0, hi0, hz0, hz1, hz2⟩ := info_parts info_int
  have hsz : (w.alloc (.cells #[.slice p n cap, .slice p2 n cap2] 26)).heap.size = w.heap.size + 1 := Array.size_push _
  rw [hsz] at HBF
  go_enter Tryd.func6, Tryd.ntmps6
  go_upto_region 1 with fail
  show Code.wp _ _ _ _ ((w.alloc (.cells #[.slice p n cap, .slice p2 n cap2] 26)).alloc (.cells nofc 30))
  generalize (w.alloc (.cells #[.slice p n cap, .slice p2 n cap2] 26)).alloc (.cells nofc 30) = w0 at *
  have z0 := HBX.out.cell 0
  have z1 := HBX.out.cell 1
  go_wp2_with fail
  refine HM.out.mono ?_; rintro e w1 ⟨rfl, E1⟩
  have y0 := (HBX.out.ext E1).cell 0
  have y1 := (HBX.out.ext E1).cell 1
  have HS := Lib.hid (split_ok d _ w1 HO.out (HD.out.ext E1))
  have hE1 := Lib.hid E1
  rw [HN.out] at HS
  clear HM E1
  go_wp2_with fail
  refine HS.out.mono ?_; rintro e w2 ⟨g, C, rfl, hg, hC, hF, E2⟩
  have HF := Lib.hid hF
  have HC := Lib.hid hC
  have HE2 := Lib.hid (bel_call hE1.out E2)
  have HG : Hid (w0.heap.size ≤ g) := Lib.hid (Nat.le_trans hE1.out.size hg)
  clear hF hC E2 HS hg
  go_wp2_with (at_make; refine wpList_make_full _ rfl _ _ 24 rfl w2.heap.size 3 i0 (.int .i64 0) 1 Tryd.underlying24 hi0 hz0 hz1 .i64 .i64 _ _ n rfl rfl rfl rfl (by rw [hz2]; omega) (by unfold maxLen; omega) (by omega) ?_; intro wm hown hgm)
  have hxm : Ext w2 wm := ⟨hgm.os, hgm.tape, hgm.output, hgm.size, fun k hk => hgm.block k hk (by simp)⟩
  obtain ⟨gm, hgm2⟩ : ∃ g, w2.heap.size = g := ⟨_, rfl⟩
  have HNm := Lib.hid (zeros_own hgm2 (by rw [← toList_madeCells_one]; simpa [Value.cells] using hown))
  have HCm := Lib.hid (HC.out.ext hxm)
  have HEm := Lib.hid (bel_call HE2.out hxm)
  have hgl := HC.out.lt
  have HGM := Lib.hid (show g ≠ gm ∧ w0.heap.size ≤ gm ∧ gm < wm.heap.size ∧ g < wm.heap.size ∧ w0.heap.size ≤ wm.heap.size from ⟨by omega, by have := HG.out; omega, HNm.out.lt, HCm.out.lt, HEm.out.size⟩)
  have HNI : Hid (NI C (List.replicate n 0) 0) := Lib.hid (fun j h => absurd h (by omega))
  obtain ⟨bo, hbo⟩ : ∃ b, wm.heap.size = b := ⟨_, rfl⟩
  have HOo := Lib.hid (own_nil wm bo 3 1)
  have HBo := Lib.hid (Nat.le_of_eq hbo.symm)
  have HKL := Lib.hid (show (kn C 0).length = 0 by simp [kn])
  simp only [hgm2]
  generalize List.replicate n 0 = Z at HNm HNI
  rw [hbo] at HGM
  clear hown hgm hgm2 hxm HC HE2 hgl y0 y1 z0 z1 hE1 hbo
  go_loopw [6, 7, 8] (fun s6 s7 s8 wr => ∃ (i : Nat) (N : List Nat), i ≤ n ∧ s8 = .int .i64 i ∧ s6 = .int .i64 ((kn C i).length : Nat) ∧ Hid (NI C N i) ∧ Hid (CW wr gm n N) ∧ Hid (CW wr g n C) ∧ Hid (wr.ownsRow bo 3 1 s7 i (((ren (nj C)).take i).map iv)) ∧ Hid (Ext w0 wr) ∧ Hid (bo ≤ wr.heap.size)) (fun _ _ s8 _ => n - (intOf s8).toNat)
  case atStart => exact ⟨0, Z, Nat.zero_le _, rfl, by rw [HKL.out]; rfl, HNI, HNm, HCm, HOo, HEm, HBo⟩
  case round =>
    clear HNI HNm HCm HOo HEm HKL HBo
    obtain ⟨i, N, hi, rfl, rfl, hNI, hNm, hC, hO, hE, hB⟩ := hrel
    by_cases hin : i < n
    · have y0 := hC.out.get hin
      have y1 := hNm.out.frz i
      have y2 := hNm.out.get hin
      have hkl := kn_len C i
      have hNl := hNm.out.len
      obtain ⟨r, hr⟩ : ∃ r, C.getD i 0 = r := ⟨_, rfl⟩
      have hri := HF.out.le i hin
      rw [hr] at y0 hri
      obtain ⟨m, hm⟩ : ∃ m, (kn C i).length = m := ⟨_, rfl⟩
      rw [hm] at hkl ⊢
      by_cases q : r = i
      · have hKN := kn_new HF.out hin (by rw [hr, q])
        have N9 := hNI.out.new HF.out hNl hin (by rw [hr, q])
        rw [hm] at N9 hKN
        have HKN := Lib.hid hKN
        have HAT := ren_at HF.out N9 hin
        have N9 := Lib.hid N9
        have M9 := Lib.hid (hNm.out.set (i := i) (x := m))
        have C9 := Lib.hid (hC.out.other (b := gm) (i := i) HGM.out.1 (.int .i64 (m : Int)))
        have O9 := Lib.hid (own_set (u := .int .i64 (m : Int)) (b := gm) (i := i) hO.out (fun qq => absurd (World.ownsRow.lt hO.out _ qq).1 (by have := HGM.out.2.2.1; omega)))
        have E9 := Lib.hid (hE.out.setCell (p := ⟨gm, i, none⟩) HGM.out.2.1 (.int .i64 (m : Int)))
        subst q
        clear hKN hNI hNm hC hO hE hNl
        go_upto_region 13 with fail
        have hbs : bo ≤ (wr.setCell ⟨gm, r, none⟩ (.int .i64 (m : Int))).heap.size := by have := hB.out; simpa [World.setCell] using this
        clear hB
        generalize wr.setCell ⟨gm, r, none⟩ (.int .i64 (m : Int)) = wb at *
        have k0 := C9.out.get hin
        have k1 := M9.out.get hin
        clear y0 y1 y2
        obtain ⟨x, hx⟩ : ∃ x, (N.set r m).getD (C.getD r 0) 0 = x := ⟨_, rfl⟩
        rw [hx] at HAT
        have k2 : wb.cell? ⟨gm, C.getD r 0, none⟩ = some (.int .i64 (x : Nat)) := by rw [hr, k1, ← hx, hr]
        rw [hr] at k0 k2
        have HAT := Lib.hid HAT
        clear hx k1
        go_wp2_with (at_builtin; refine wpList_append_own _ rfl _ _ 24 rfl bo 3 i0 (.int .i64 0) 1 8 Tryd.underlying24 hi0 hz0 hz1 hz2 rfl (by decide) _ _ _ rfl (O9.out.alloc _) ⟨_, 0, none⟩ 1 1 [iv x] rfl rfl (cell_nwb _ [iv x] _ _ (by simp)) (iv_one _) (by unfold maxLen; omega) (by omega) (by simp; omega) ?_; intro v6 w6 hown6 hgrow6 hnil6)
        have C6 : Hid (CW w6 g n C) := Lib.hid (World.ownsRow.kept (C9.out.ext (by go_grown)) hgrow6 (.inr (fun q => absurd (World.ownsRow.lt O9.out g q.symm).1 (by have := HGM.out; omega))))
        have M6 : Hid (CW w6 gm n (N.set r m)) := Lib.hid (World.ownsRow.kept (M9.out.ext (by go_grown)) hgrow6 (.inr (fun q => absurd (World.ownsRow.lt O9.out gm q.symm).1 (by have := HGM.out; omega))))
        have E6 := Lib.hid (ext_gr (bel_call E9.out (by go_grown)) hgrow6 (O9.out.alloc _) HGM.out.2.2.2.2)
        have B6 : Hid (bo ≤ w6.heap.size) := Lib.hid (Nat.le_trans hbs (Nat.le_trans (show _ ≤ _ from by simp) hgrow6.size))
        rw [← HAT.out] at hown6
        have O6 := Lib.hid hown6
        clear hown6 hgrow6 hnil6 k0 k2
        go_wp2_with fail
        go_roundw
        case rel => exact ⟨r + 1, N.set r m, by omega, by go_num, by first | (rw [HKN.out]; done) | (rw [HKN.out]; go_num), N9, M6, C6, O6, E6, B6⟩
        case measure => simp [intOf]; omega
      · have HKN := Lib.hid (kn_old HF.out hin (by rw [hr]; exact q))
        have N9 := hNI.out.old HF.out (by rw [hr]; exact q)
        have HAT := ren_at HF.out N9 hin
        have N9 := Lib.hid N9
        have M9 := hNm
        have C9 := hC
        have O9 := hO
        have E9 := hE
        have hbs := hB.out
        have t1 : ((r : Int) == (i : Int)) = false := by simp; omega
        have t1' : (r == i) = false := by simp; omega
        have k0 := y0
        rw [← hr] at k0
        have k1 := M9.out.get (i := r) (by omega)
        rw [hm] at HKN
        have q := Lib.hid q
        clear hNI hNm hC hO hE hNl hB y1 y2
        go_upto_region 13 with fail
        clear t1 t1' y0
        obtain ⟨x, hx⟩ : ∃ x, (N).getD (C.getD i 0) 0 = x := ⟨_, rfl⟩
        rw [hx] at HAT
        have k2 : wr.cell? ⟨gm, C.getD i 0, none⟩ = some (.int .i64 (x : Nat)) := by rw [hr, k1, ← hx, hr]
        rw [hr] at k0 k2
        have HAT := Lib.hid HAT
        clear hx k1
        go_wp2_with (at_builtin; refine wpList_append_own _ rfl _ _ 24 rfl bo 3 i0 (.int .i64 0) 1 8 Tryd.underlying24 hi0 hz0 hz1 hz2 rfl (by decide) _ _ _ rfl (O9.out.alloc _) ⟨_, 0, none⟩ 1 1 [iv x] rfl rfl (cell_nwb _ [iv x] _ _ (by simp)) (iv_one _) (by unfold maxLen; omega) (by omega) (by simp; omega) ?_; intro v6 w6 hown6 hgrow6 hnil6)
        have C6 : Hid (CW w6 g n C) := Lib.hid (World.ownsRow.kept (C9.out.ext (by go_grown)) hgrow6 (.inr (fun q => absurd (World.ownsRow.lt O9.out g q.symm).1 (by have := HGM.out; omega))))
        have M6 : Hid (CW w6 gm n (N)) := Lib.hid (World.ownsRow.kept (M9.out.ext (by go_grown)) hgrow6 (.inr (fun q => absurd (World.ownsRow.lt O9.out gm q.symm).1 (by have := HGM.out; omega))))
        have E6 := Lib.hid (ext_gr (bel_call E9.out (by go_grown)) hgrow6 (O9.out.alloc _) HGM.out.2.2.2.2)
        have B6 : Hid (bo ≤ w6.heap.size) := Lib.hid (Nat.le_trans hbs (Nat.le_trans (show _ ≤ _ from by simp) hgrow6.size))
        rw [← HAT.out] at hown6
        have O6 := Lib.hid hown6
        clear hown6 hgrow6 hnil6 k0 k2
        go_wp2_with fail
        go_roundw
        case rel => exact ⟨i + 1, N, by omega, by go_num, by first | (rw [HKN.out]; done) | (rw [HKN.out]; go_num), N9, M6, C6, O6, E6, B6⟩
        case measure => simp [intOf]; omega
    · obtain rfl : n = i := by omega
      have hL : ((ren (nj C)).take n).map iv = (ren (nj C)).map iv := by rw [List.take_of_length_le (by simp [ren, nj_len, HF.out.len])]
      have hRl : (ren (nj C)).length = n := by simp [ren, nj_len, HF.out.len]
      have hO := hO.out
      rw [hL] at hO
      have hO := Lib.hid hO
      have hcls := Lib.hid (fin_cls HF.out)
      have hF := HBF.out.ext hE.out
      have q0 : wr.cell? ⟨w.heap.size + 1, 0, none⟩ = some (.int .i64 0) := hF.cell 0
      have q1 : wr.cell? ⟨w.heap.size + 1, 1, none⟩ = some (.int .i64 0) := hF.cell 1
      have q2 : wr.cell? ⟨w.heap.size + 1, 2, none⟩ = some (.int .i64 0) := hF.cell 2
      have q3 : wr.cell? ⟨w.heap.size + 1, 3, none⟩ = some (.int .i64 0) := hF.cell 3
      have q4 : wr.cell? ⟨w.heap.size + 1, 4, none⟩ = some (.slice none 0 0) := hF.cell 4
      have f0 := hF.free 0
      have f1 := hF.free 1
      have f2 := hF.free 2
      have f3 := hF.free 3
      have f4 := hF.free 4
      have s0 : wr.setCell ⟨w.heap.size + 1, 0, none⟩ (.int .i64 0) = wr := set_same hF rfl
      have s1 : wr.setCell ⟨w.heap.size + 1, 1, none⟩ (.int .i64 0) = wr := set_same hF rfl
      have s2 : wr.setCell ⟨w.heap.size + 1, 2, none⟩ (.int .i64 0) = wr := set_same hF rfl
      have s3 : wr.setCell ⟨w.heap.size + 1, 3, none⟩ (.int .i64 0) = wr := set_same hF rfl
      have s4 : wr.setCell ⟨w.heap.size + 1, 4, none⟩ (.slice none 0 0) = wr := set_same hF rfl
      have hlt := hF.lt
      clear hF hL hNI hNm hC
      go_wp2_with fail
      refine bodyPost_ret (v := .tuple #[u7, nof]) ?_ rfl ?_
      · simp [results, Tryd.results6, go_sem, nof, q0, q1, q2, q3, q4]
      · exact ⟨_, ren (nj C), rfl, by rw [hRl]; exact hO.out.mono (Nat.le_trans HEB.out.size HGM.out.2.2.2.2), hcls.out, bel_call HEB.out hE.out⟩
end Go.Proofs.YtnnkomdkggepjaaDoor
namespace Go.Proofs.YtnnkomdkggepjaaDoor
open Go Go.RowKit
/-- The state of the outer loop. -/
structure Lo12 (w : World) (B xb g n : Nat) (d : Dd) (C : List Nat) (i : Nat) (vt vN vl : Value) (rs : List (Value × List Int)) : Prop where
  fam : Fam w B ((vt, (bfsF (tn d C) ci (256 * i)).map ci) :: (vl, (bfsD (tn d C) ci d.lab i).lb) :: rs)
  rows : rs.map (·.2) = (bfsD (tn d C) ci d.lab i).nx
  rn : w.ownsRow B 24 1 vN i (rs.map (·.1))
  xb : Blk w xb #[vN, vl] 26
  cw : CW w g n C
/-- What the inner loop keeps. -/
structure In12 (w0 w : World) (B g n i : Nat) (C : List Nat) (vN vl : Value) (rs : List (Value × List Int)) : Prop where
  rn : w.ownsRow B 24 1 vN i (rs.map (·.1))
  xb : Blk w (B + 1) #[vN, vl] 26
  cw : CW w g n C
  ex : Ext w0 w
theorem In12.ext {w0 w w' : World} {B g n i : Nat} {C : List Nat} {vN vl : Value} {rs : List (Value × List Int)} (h : In12 w0 w B g n i C vN vl rs) (hx : Ext w w') : In12 w0 w' B g n i C vN vl rs :=
  ⟨own_ex h.rn hx, h.xb.ext hx, h.cw.ext hx, bel_call h.ex hx⟩
theorem In12.grow {w0 w w2 w' : World} {B g n i m : Nat} {C : List Nat} {vN vl u : Value} {rs : List (Value × List Int)} {xs : List Value} (h : In12 w0 w B g n i C vN vl rs)
    (hu : w.ownsRow B 3 1 u m xs) (hx : Ext w w2) (hg : w2.grownBy w' u.ownBlock) (hB : w0.heap.size ≤ B) (hgB : g < B) : In12 w0 w' B g n i C vN vl rs := by
  have hu2 := own_ex hu hx
  have hxb := h.xb.ext hx
  refine ⟨(own_ex h.rn hx).kept hg ?_, ?_, (h.cw.ext hx).kept hg (.inr (fun q => ?_)), ?_⟩
  · cases hq : vN.ownBlock with
    | none => exact .inl rfl
    | some g2 => exact .inr (fun q => own_ne_own hu (h.rn) (by decide) g2 hq q.symm)
  · have h1 := hxb.lt
    have h2 := own_ne_blk hu2 hxb (by decide)
    unfold Blk at *
    rw [hg.block (B + 1) h1 (fun q => h2 q.symm)]; exact hxb
  · have := (World.ownsRow.lt hu g q.symm).1
    omega
  · exact ext_gr (bel_call h.ex hx) hg hu2 hB
theorem Blk.grownBy {w w' : World} {b : Nat} {vs : Array Value} {t : TypeId} {o : Option Nat} (h : Blk w b vs t) (hg : w.grownBy w' o) (hne : o ≠ some b) : Blk w' b vs t := by
  have := h.lt
  unfold Blk at *
  rw [hg.block b this (fun q => hne q.symm)]; exact h
theorem Fam.put {w : World} {B b k : Nat} {L : List (Value × List Int)} {u : Value} {vs : Array Value} {t : TypeId} (h : Fam w B L) (hb : Blk w b vs t) (hne : 3 ≠ t) : Fam (w.setCell ⟨b, k, none⟩ u) B L :=
  ⟨fun p q => own_set (h.en p q) (own_ne_blk (h.en p q) hb hne), h.dj⟩
theorem Fam.lkf {w w' : World} {B : Nat} {vl v' : Value} {ls : List Int} {y : Int} {L : List (Value × List Int)} {ys : List Value} (h : Fam w B ((vl, ls) :: L)) (hx : LkF (kf2 vl.ownBlock ys none []) w w')
    (ho : w'.ownsRow B 3 1 v' (ls.length + 1) (ls.map iv ++ [iv y])) {g : Nat} (hv : v'.ownBlock = some g) (hl : vl.ownBlock = some g ∨ w.heap.size ≤ g) : Fam w' B ((v', ls ++ [y]) :: L) := by
  obtain ⟨hp, hL⟩ := List.pairwise_cons.1 h.dj
  refine ⟨fun p q => ?_, List.pairwise_cons.2 ⟨fun p q => ?_, hL⟩⟩
  · rcases List.mem_cons.1 q with rfl | q
    · simpa using ho
    · exact own_lkf (h.en p (List.mem_cons_of_mem _ q)) hx (fun g N T hg hK j hj => by
        rw [kf2_none (fun e => hp p q g e hg) (by simp)] at hK; cases hK)
  · intro g2 a b
    rw [hv] at a
    have e := Option.some.inj a
    subst e
    rcases hl with e | e
    · exact hp p q g e b
    · have := (World.ownsRow.lt (h.en p (List.mem_cons_of_mem _ q)) g b).2
      omega
theorem Fam.ownD {w : World} {B : Nat} {vt vl vN : Value} {F : List Int} {m : Dd} {rs : List (Value × List Int)} (h : Fam w B ((vt, F) :: (vl, m.lb) :: rs)) (hr : rs.map (·.2) = m.nx) (hn : w.ownsRow B 24 1 vN m.nx.length (rs.map (·.1))) :
    OwnD w B vN vl (rs.map (·.1)) m := by
  obtain ⟨_, h2⟩ := List.pairwise_cons.1 h.dj
  obtain ⟨h3, h4⟩ := List.pairwise_cons.1 h2
  have hlen : rs.length = m.nx.length := by rw [← hr, List.length_map]
  have e1 : ∀ j (hj : j < rs.length), (rs.map (·.1)).getD j nilS = rs[j].1 := fun j hj => by rw [getD_get (by simpa using hj), List.getElem_map]
  have e2 : ∀ j (hj : j < rs.length), m.nx.getD j [] = rs[j].2 := fun j hj => by rw [← hr, getD_get (by simpa using hj), List.getElem_map]
  refine ⟨hn, h.en _ (List.mem_cons_of_mem _ (List.mem_cons_self ..)), fun j hj => ?_, fun j hj => ?_, fun j k hj hk hne => ?_⟩
  · rw [e1 j (by omega), e2 j (by omega)]
    exact h.en rs[j] (List.mem_cons_of_mem _ (List.mem_cons_of_mem _ (List.getElem_mem _)))
  · rw [e1 j (by omega)]; exact h3 _ (List.getElem_mem _)
  · rw [e1 j (by omega), e1 k (by omega)]
    have hp := List.pairwise_iff_getElem.1 h4
    rcases Nat.lt_or_ge j k with q | q
    · exact hp j k (by omega) (by omega) q
    · exact (hp k j (by omega) (by omega) (by omega)).symm
theorem bfsR_more (dl : Nat → Nat → Nat) (cl : Nat → Int) (i c : Nat) : bfsR dl cl i (c + 1) = bfsR dl cl i c ++ [bfsE dl cl (256 * i + c)] := by simp [bfsR, List.range_succ]
theorem bfsR_len (dl : Nat → Nat → Nat) (cl : Nat → Int) (i c : Nat) : (bfsR dl cl i c).length = c := by simp [bfsR]
theorem Fam.one {w : World} {B : Nat} {v : Value} {L : List Int} (h : w.ownsRow B 3 1 v L.length (L.map iv)) : Fam w B [(v, L)] :=
  ⟨fun p q => by rw [List.mem_singleton.1 q]; exact h, List.pairwise_singleton _ _⟩
set_option maxHeartbeats 4000000 in
set_option maxRecDepth 20000 in
theorem ler_ok (d : Dd) (v : Value) (w : World) (hd : d.Ok) (h : Dns w v d) :
    Calls Tryd.prog 5 #[v] w fun e w' => ∃ m vN vL vs, e = .returned (.tuple #[.agg #[vN, vL], nof]) ∧ Canon m (d.beh 0) ∧ OwnD w' w.heap.size vN vL vs m ∧ Ext w w' := by
  have h0 := h
  have hb := okB_ok.2 hd
  obtain ⟨a, b, rfl, h1, h2⟩ := h
  obtain ⟨p, cap, rfl, _⟩ := h1.shape
  obtain ⟨p2, cap2, rfl, _⟩ := h2.shape
  obtain ⟨n, hn⟩ : ∃ n, d.nx.length = n := ⟨_, rfl⟩
  have hl : d.lb.length = n := by rw [hd.lbl, hn]
  have h6 := hd.le
  have hp := hd.pos
  rw [hn] at h1 h0 h6 hp ⊢
  rw [hl] at h2 h0 ⊢
  obtain ⟨wA, hwA⟩ : ∃ wA, w.alloc (.cells #[.slice p n cap, .slice p2 n cap2] 26) = wA := ⟨_, rfl⟩
  obtain ⟨wB, hwB⟩ : ∃ wB, wA.alloc (.cells #[nilS, nilS] 26) = wB := ⟨_, rfl⟩
  have hsA : wA.heap.size = w.heap.size + 1 := by rw [← hwA]; exact Array.size_push _
  have hsB : wB.heap.size = w.heap.size + 1 + 1 := by rw [← hwB, ← hsA]; exact Array.size_push _
  have xA : Ext w wA := by rw [← hwA]; exact ext_box w _ _
  have xB : Ext wA wB := by rw [← hwB]; exact ext_box wA _ _
  have xC := ext_box wB nofc 30
  have HEB := Lib.hid (bel_call (bel_call xA xB) xC)
  have HBX := Lib.hid (((by rw [← hwA]; exact Blk.new w #[.slice p n cap, .slice p2 n cap2] 26 : Blk wA w.heap.size #[.slice p n cap, .slice p2 n cap2] 26).ext xB).ext xC)
  have HBR := Lib.hid ((by rw [← hsA, ← hwB]; exact Blk.new wA #[nilS, nilS] 26 : Blk wB (w.heap.size + 1) #[nilS, nilS] 26).ext xC)
  have HBF := Lib.hid (Blk.new wB nofc 30)
  rw [hsB] at HBF
  have HD := Lib.hid (h0.ext HEB.out)
  have H1 := Lib.hid (h1.ext HEB.out)
  have H2 := Lib.hid (h2.ext HEB.out)
  have HO := Lib.hid hd
  have HN := Lib.hid hn
  have HL := Lib.hid hl
  have HM0 := may_any d _ _ HD.out
  rw [hb] at HM0
  have HM := Lib.hid HM0
  clear HM0
  clear h1 h2 h0 hd hn hl hb xA xB xC
  obtain ⟨i0, hi0, hz0, hz1, hz2⟩ := info_parts info_int
  obtain ⟨j0, hj0, hy0, hy1, hy2⟩ := info_parts info_sli
  go_enter Tryd.func5, Tryd.ntmps5
  go_upto_region 1 with fail
  show Code.wp _ _ _ _ (wB.alloc (.cells nofc 30))
  generalize wB.alloc (.cells nofc 30) = w0 at *
  clear hwA hwB hsA hsB
  have z0 := HBX.out.cell 0
  have z1 := HBX.out.cell 1
  go_wp2_with fail
  refine HM.out.mono ?_; rintro e w1 ⟨rfl, E1⟩
  have y0 := (HBX.out.ext E1).cell 0
  have y1 := (HBX.out.ext E1).cell 1
  have HS := Lib.hid (split_ok d _ w1 HO.out (HD.out.ext E1))
  have hE1 := Lib.hid E1
  rw [HN.out] at HS
  clear HM E1 z0 z1
  go_wp2_with fail
  refine HS.out.mono ?_; rintro e w2 ⟨g, C, rfl, hg, hC, hF, E2⟩
  have HF := Lib.hid hF
  have HC := Lib.hid hC
  have HE2 := Lib.hid (bel_call hE1.out E2)
  have HG : Hid (w0.heap.size ≤ g ∧ g < w2.heap.size) := Lib.hid ⟨Nat.le_trans hE1.out.size hg, hC.lt⟩
  have hc0 := hC.get (i := 0) hp
  have hz : C.getD 0 0 = 0 := by have := hF.le 0 hp; omega
  rw [hz] at hc0
  obtain ⟨B, hB⟩ : ∃ B, w2.heap.size = B := ⟨_, rfl⟩
  clear hF hC E2 HS hg hz y0 y1 hE1
  go_upto_region 5 with fail
  have HO3 := World.ownsRow_lit (base := B) (e := 3) (size := 1) w2 #[nv 0] 1 (by omega) (by unfold maxLen; omega) rfl
  rw [hB] at HO3
  have x3 := ext_box w2 #[nv 0] 3
  have hs3 : (w2.alloc (.cells #[nv 0] 3)).heap.size = B + 1 := by rw [← hB]; exact Array.size_push _
  have x4 := ext_box (w2.alloc (.cells #[nv 0] 3)) #[nilS, nilS] 26
  have HXB := Blk.new (w2.alloc (.cells #[nv 0] 3)) #[nilS, nilS] 26
  rw [hs3] at HXB
  have L0 := Lib.hid (show Lo12 _ B (B + 1) g n d C 0 (.slice (some ⟨B, 0, none⟩) 1 1) nilS nilS [] from
    ⟨⟨fun q hq => by
        rcases List.mem_cons.1 hq with rfl | hq
        · exact own_ex HO3 x4
        · rw [List.mem_singleton.1 hq]; exact own_nil _ _ _ _,
      List.pairwise_cons.2 ⟨fun q hq => by rw [List.mem_singleton.1 hq]; exact fun g _ k => (by cases k), List.pairwise_singleton _ _⟩⟩,
      rfl, own_nil _ _ _ _, HXB, (HC.out.ext x3).ext x4⟩)
  have HE3 := Lib.hid (bel_call (bel_call HE2.out x3) x4)
  have HGB := Lib.hid (show w0.heap.size ≤ B ∧ g < B ∧ w0.heap.size ≤ g from ⟨by rw [← hB]; exact HE2.out.size, by rw [← hB]; exact HG.out.2, HG.out.1⟩)
  go_upto_region 6 with fail
  show Code.wp _ _ _ _ ((w2.alloc (.cells #[nv 0] 3)).alloc (.cells #[nilS, nilS] 26))
  have HFN := Lib.hid (show ∀ k, (bfsF (tn d C) ci k).length ≤ n from fun k => bfs_le (S := Rep n C) (rep_zero HF.out hp) (fun s c hs hc => rep_tn HO.out HN.out HF.out hs hc) (fun _ h => h.1) k)
  have HFI := Lib.hid (show ∀ k, ∀ x ∈ bfsF (tn d C) ci k, Rep n C x from fun k => bfs_in (S := Rep n C) (rep_zero HF.out hp) (fun s c hs hc => rep_tn HO.out HN.out HF.out hs hc) k)
  generalize (w2.alloc (.cells #[nv 0] 3)).alloc (.cells #[nilS, nilS] 26) = w3 at *
  clear HO3 x3 x4 hs3 HXB HC HE2 HG hc0 hB
  go_wp2_with fail
  go_loopw [5, 7] (fun s5 s7 wr => ∃ i : Nat, i ≤ n ∧ s7 = .int .i64 i ∧ ∃ vN vl rs, Hid (Lo12 wr B (B + 1) g n d C i s5 vN vl rs) ∧ Hid (∀ j, j < i → j < (bfsF (tn d C) ci (256 * j)).length) ∧ Hid (Ext w0 wr)) (fun _ i _ => n - (intOf i).toNat)
  case atStart => exact ⟨0, Nat.zero_le _, rfl, nilS, nilS, [], L0, Lib.hid (fun j hj => absurd hj (by omega)), HE3⟩
  case round =>
    clear L0 HE3
    obtain ⟨i, hi, rfl, vN, vl, rs, hL, hJ, hE⟩ := hrel
    obtain ⟨F, hFq⟩ : ∃ F, bfsF (tn d C) ci (256 * i) = F := ⟨_, rfl⟩
    have hF1 : 1 ≤ (bfsF (tn d C) ci (256 * i)).length := bfs_len_mono (j := 0) (Nat.zero_le _)
    have hFn := HFN.out (256 * i)
    have FO : wr.ownsRow B 3 1 u5 (bfsF (tn d C) ci (256 * i)).length ((bfsF (tn d C) ci (256 * i)).map nv) := by
      have := hL.out.fam.en _ (List.mem_cons_self ..)
      simpa [Function.comp_def, ci] using this
    rw [hFq] at hF1 hFn FO
    have HFE := Lib.hid hFq
    obtain ⟨gt, ct, rfl, _, hgt, hgl, _⟩ := own_some FO hF1
    have FO := Lib.hid FO
    clear hFq
    by_cases hil : i < F.length
    · have hI0 := Lib.hid (show Fam wr B ((.slice (some ⟨gt, 0, none⟩) F.length ct, (bfsF (tn d C) ci (256 * i + 0)).map ci) :: (.slice none 0 0, bfsR (tn d C) ci i 0) :: (vl, (bfsD (tn d C) ci d.lab i).lb) :: rs) from by
        have h := hL.out.fam
        exact Fam.perm (Fam.nil h) (List.Perm.swap _ _ _))
      have HRN := Lib.hid hL.out.rn
      have HXB := Lib.hid hL.out.xb
      have HCW := Lib.hid hL.out.cw
      have HRS := Lib.hid hL.out.rows
      have hs : Rep n C (F.getD i 0) := by rw [getD_get hil]; exact HFI.out (256 * i) _ (by rw [HFE.out]; exact List.getElem_mem _)
      obtain ⟨s, hse⟩ : ∃ s, F.getD i 0 = s := ⟨_, rfl⟩
      rw [hse] at hs
      have HSE := Lib.hid hse
      have hs1 := hs.1
      have hsn : s < d.nx.length := by rw [HN.out]; exact hs1
      clear hse hs
      go_wp2_with fail
      have HIN := Lib.hid (show In12 w0 wr B g n i C vN vl rs from ⟨HRN.out, HXB.out, HCW.out, hE.out⟩)
      clear HRN HXB HCW
      obtain ⟨wo, rfl⟩ : ∃ wo : World, wo = wr := ⟨_, rfl⟩
      go_loopw [5, 8, 9] (fun s5 s8 s9 wr => ∃ c : Nat, c ≤ 256 ∧ s9 = .int .i64 c ∧ Hid (Fam wr B ((s5, (bfsF (tn d C) ci (256 * i + c)).map ci) :: (s8, bfsR (tn d C) ci i c) :: (vl, (bfsD (tn d C) ci d.lab i).lb) :: rs)) ∧ Hid (In12 w0 wr B g n i C vN vl rs)) (fun _ _ s9 _ => 256 - (intOf s9).toNat)
      case atStart => exact ⟨0, Nat.zero_le _, rfl, hI0, HIN⟩
      case round =>
        clear hI0 HIN
        obtain ⟨c, hc, rfl, hM, hI⟩ := hrel
        by_cases hcl : c < 256
        · obtain ⟨G, hGq⟩ : ∃ G, bfsF (tn d C) ci (256 * i + c) = G := ⟨_, rfl⟩
          have hG1 : 1 ≤ (bfsF (tn d C) ci (256 * i + c)).length := bfs_len_mono (j := 0) (Nat.zero_le _)
          have hGn := HFN.out (256 * i + c)
          have hiG : i < (bfsF (tn d C) ci (256 * i + c)).length := Nat.lt_of_lt_of_le (by rw [HFE.out]; exact hil) (bfs_len_mono (show 256 * i ≤ 256 * i + c by omega))
          have hGs : (bfsF (tn d C) ci (256 * i + c)).getD i 0 = s := by
            rw [bfs_get (j := 256 * i) (by omega) (by rw [HFE.out]; exact hil), HFE.out]; exact HSE.out
          have GO : wr.ownsRow B 3 1 u5 (bfsF (tn d C) ci (256 * i + c)).length ((bfsF (tn d C) ci (256 * i + c)).map nv) := by
            have := hM.out.en _ (List.mem_cons_self ..)
            simpa [Function.comp_def, ci] using this
          rw [hGq] at hG1 hGn hiG hGs GO hM
          have HGE := Lib.hid hGq
          have RO := hM.out.en _ (List.mem_cons_of_mem _ (List.mem_cons_self ..))
          rw [bfsR_len] at RO
          obtain ⟨ar, cr, hu8⟩ := own_shp RO
          have hu8 : u8 = .slice ar c cr := hu8
          subst hu8
          clear RO
          obtain ⟨gG, cG, rfl, _, hgG, hgGl, _⟩ := own_some GO hG1
          obtain ⟨bR, oR, aR, cR, rfl, hbR, hcR, hIR, -⟩ := (H1.out.ext hI.out.ex).cell hsn
          have hr1 : d.nx[s].length = 256 := by have := HO.out.row s hsn; rwa [getD_get hsn] at this
          obtain ⟨bE, oE, rfl, hbE, hcE, -⟩ := hIR.cell (k := c) (by omega)
          rw [dd_ent HO.out hsn hcl] at hcE
          rw [hr1] at hcR
          have ht0 : d.to s c < n := by have := HO.out.to hsn hcl; rw [HN.out] at this; exact this
          obtain ⟨t0, ht0q⟩ : ∃ x, d.to s c = x := ⟨_, rfl⟩
          rw [ht0q] at hcE ht0
          obtain ⟨t, htq⟩ : ∃ x, C.getD t0 0 = x := ⟨_, rfl⟩
          have z0 := (HBX.out.ext hI.out.ex).cell 0
          have z1 := nat_cell GO hiG rfl
          rw [hGs] at z1
          have z4 := hI.out.cw.get ht0
          rw [htq] at z4
          have HTT := Lib.hid (show tn d C (G.getD ((256 * i + c) / 256) 0) ((256 * i + c) % 256) = t from by
            rw [show (256 * i + c) / 256 = i by omega, show (256 * i + c) % 256 = c by omega, hGs]; unfold tn; rw [ht0q, htq])
          have M9 := Lib.hid (hM.out.ext (drewx wr))
          have I9 := Lib.hid (hI.out.ext (drewx wr))
          have O9 := Lib.hid (own_ex GO (drewx wr))
          clear hGq hIR hM hI GO ht0q htq hGs
          go_wp2_with fail
          go_region
          clear z0 z1 z4 hcE hcR
          generalize wr.drew = wd at *
          go_wp2_with fail
          have HK0 := Lib.hid (show ∀ b, b < 0 → G.getD b 0 ≠ t from fun b h => absurd h (by omega))
          go_loopw [11, 12] (fun s11 s12 wr => ∃ k : Nat, k ≤ G.length ∧ s12 = .int .i64 k ∧ wr = wd ∧ ((s11 = .int .i64 (-1) ∧ Hid (∀ b, b < k → G.getD b 0 ≠ t)) ∨ (∃ a : Nat, a + 1 = k ∧ s11 = .int .i64 a ∧ Hid (G.getD a 0 = t ∧ ∀ b, b < a → G.getD b 0 ≠ t)))) (fun _ s12 _ => G.length - (intOf s12).toNat)
          case atStart => exact ⟨0, Nat.zero_le _, rfl, rfl, .inl ⟨rfl, HK0⟩⟩
          case round =>
            clear HK0
            obtain ⟨k, hk, rfl, rfl, hor⟩ := hrel
            rcases hor with ⟨rfl, hno⟩ | ⟨a, hak, rfl, hyes⟩
            · by_cases hkl : k < G.length
              · have k1 := nat_cell O9.out hkl rfl
                obtain ⟨y, hy⟩ : ∃ y, G.getD k 0 = y := ⟨_, rfl⟩
                rw [hy] at k1
                by_cases q : y = t
                · have HY := Lib.hid (show G.getD k 0 = t ∧ ∀ b, b < k → G.getD b 0 ≠ t from ⟨by rw [hy, q], hno.out⟩)
                  subst q
                  clear hy hno
                  go_wp2_with fail
                  go_roundw
                  case rel => exact ⟨k + 1, by omega, by go_num, by first | trivial | rfl, .inr ⟨k, by first | trivial | rfl, by first | trivial | rfl, HY⟩⟩
                  case measure => simp [intOf]; omega
                · have HN9 := Lib.hid (show ∀ b, b < k + 1 → G.getD b 0 ≠ t from fun b hb => by
                    by_cases e : b = k
                    · subst e; rw [hy]; exact q
                    · exact hno.out b (by omega))
                  have t1 : ((y : Int) == (t : Int)) = false := by simp; omega
                  have t1' : (y == t) = false := by simp; omega
                  clear hy hno q
                  go_wp2_with fail
                  go_roundw
                  case rel => exact ⟨k + 1, by omega, by go_num, by first | trivial | rfl, .inl ⟨by first | trivial | rfl, HN9⟩⟩
                  case measure => simp [intOf]; omega
              · obtain rfl : k = G.length := by omega
                have hX := ler_out HGE.out HTT.out hno.out
                have hB9 := (own_lo O9.out gG rfl)
                have O8 : wr.ownsRow B 3 1 (.slice (some ⟨gG, 0, none⟩) G.length cG) G.length ((G.map ci).map iv) := by
                  have := M9.out.en _ (List.mem_cons_self ..)
                  rw [List.length_map] at this; exact this
                have O8 := Lib.hid O8
                have HX := Lib.hid hX
                have HGL := Lib.hid (show (G.map ci).length = G.length from List.length_map _)
                clear hk hkl hX hno
                go_upto_region 23 with (at_builtin; refine wpList_append_own_at _ rfl (.tmp 69) (.tmp 71) 24 rfl B 3 i0 (.int .i64 0) 1 8 Tryd.underlying24 hi0 hz0 hz1 hz2 rfl (by decide) _ _ _ rfl (O8.out.alloc _) ⟨_, 0, none⟩ 1 1 [iv (ci t)] rfl rfl (cell_nwb _ [iv (ci t)] _ _ (by simp)) (iv_one _) (by unfold maxLen; omega) (by omega) (by simp; omega) ?_; intro v5 w5 hown5 hgrow5 hnil5 hloc5)
                have hx5 : Ext wr (wr.alloc (.cells #[iv (ci t)] 3)) := by go_grown
                have M8 := Fam.grow M9.out hx5 hgrow5 (by rw [HGL.out]; exact hown5) hloc5
                have I8 := Lib.hid (I9.out.grow O9.out hx5 hgrow5 HGB.out.1 HGB.out.2.1)
                rw [show G.map ci ++ [ci t] = (bfsF (tn d C) ci (256 * i + (c + 1))).map ci by rw [← Nat.add_assoc, HX.out.1]; simp] at M8
                have HRL := Lib.hid (bfsR_len (tn d C) ci i c)
                have R9 : w5.ownsRow B 3 1 (.slice ar c cr) c ((bfsR (tn d C) ci i c).map iv) := by
                  have := M8.en _ (List.mem_cons_of_mem _ (List.mem_cons_self ..))
                  rw [bfsR_len] at this; exact this
                have R9 := Lib.hid R9
                have hBw5 : B ≤ w5.heap.size := Nat.le_trans (show B ≤ (wr.alloc (.cells #[iv (ci t)] 3)).heap.size by simp; omega) hgrow5.size
                have M8 := Lib.hid M8
                have HRX := Lib.hid (show bfsR (tn d C) ci i (c + 1) = bfsR (tn d C) ci i c ++ [((G.length : Nat) : Int)] by rw [bfsR_more, HX.out.2])
                clear hx5 hown5 hgrow5 hnil5 hloc5
                go_wp2_with (at_builtin; refine wpList_append_own_at _ rfl (.tmp 73) (.tmp 75) 24 rfl B 3 i0 (.int .i64 0) 1 8 Tryd.underlying24 hi0 hz0 hz1 hz2 rfl (by decide) _ _ _ rfl (R9.out.alloc _) ⟨_, 0, none⟩ 1 1 [iv (((G.length : Nat) : Int))] rfl rfl (cell_nwb _ [iv (((G.length : Nat) : Int))] _ _ (by simp)) (iv_one _) (by unfold maxLen; omega) (by omega) (by simp; omega) ?_; intro v6 w6 hown6 hgrow6 hnil6 hloc6)
                have hx6 : Ext w5 (w5.alloc (.cells #[iv (((G.length : Nat) : Int))] 3)) := by go_grown
                have M10 := Lib.hid (Fam.perm (Fam.grow (Fam.perm M8.out (List.Perm.swap _ _ _)) hx6 hgrow6 (by rw [HRL.out]; exact hown6) hloc6) (List.Perm.swap _ _ _))
                have I10 := Lib.hid (I8.out.grow R9.out hx6 hgrow6 HGB.out.1 HGB.out.2.1)
                rw [← HRX.out] at M10
                clear hx6 hown6 hgrow6 hnil6 hloc6
                go_wp2_with fail
                go_roundw
                case rel => exact ⟨c + 1, by omega, by go_num, M10, I10⟩
                case measure => simp [intOf]; omega
            · have hal : a < G.length := by omega
              have hX := ler_in HGE.out HTT.out hal hyes.out.1 hyes.out.2
              have hB9 := (own_lo O9.out gG rfl)
              have HX := Lib.hid hX
              have M8 := M9.out
              rw [show G.map ci = (bfsF (tn d C) ci (256 * i + (c + 1))).map ci by rw [← Nat.add_assoc, HX.out.1]] at M8
              have HRL := Lib.hid (bfsR_len (tn d C) ci i c)
              have R9 : wr.ownsRow B 3 1 (.slice ar c cr) c ((bfsR (tn d C) ci i c).map iv) := by
                have := M8.en _ (List.mem_cons_of_mem _ (List.mem_cons_self ..))
                rw [bfsR_len] at this; exact this
              have R9 := Lib.hid R9
              have hBw5 : B ≤ wr.heap.size := by omega
              have M8 := Lib.hid M8
              have I8 := I9
              have HRX := Lib.hid (show bfsR (tn d C) ci i (c + 1) = bfsR (tn d C) ci i c ++ [((a : Nat) : Int)] by rw [bfsR_more, HX.out.2])
              have ta : decide ((a : Int) < 0) = false := decide_eq_false (by omega)
              obtain ⟨k, rfl⟩ : ∃ k', k' = k := ⟨_, rfl⟩
              clear hyes hX
              by_cases hkl : k < G.length
              · have tk : decide ((k : Int) < (G.length : Int)) = true := decide_eq_true (by omega)
                clear hk
                go_wp2_with (at_builtin; refine wpList_append_own_at _ rfl (.tmp 73) (.tmp 75) 24 rfl B 3 i0 (.int .i64 0) 1 8 Tryd.underlying24 hi0 hz0 hz1 hz2 rfl (by decide) _ _ _ rfl (R9.out.alloc _) ⟨_, 0, none⟩ 1 1 [iv (((a : Nat) : Int))] rfl rfl (cell_nwb _ [iv (((a : Nat) : Int))] _ _ (by simp)) (iv_one _) (by unfold maxLen; omega) (by omega) (by simp; omega) ?_; intro v6 w6 hown6 hgrow6 hnil6 hloc6)
                have hx6 : Ext wr (wr.alloc (.cells #[iv (((a : Nat) : Int))] 3)) := by go_grown
                have M10 := Lib.hid (Fam.perm (Fam.grow (Fam.perm M8.out (List.Perm.swap _ _ _)) hx6 hgrow6 (by rw [HRL.out]; exact hown6) hloc6) (List.Perm.swap _ _ _))
                have I10 := Lib.hid (I8.out.grow R9.out hx6 hgrow6 HGB.out.1 HGB.out.2.1)
                rw [← HRX.out] at M10
                clear hx6 hown6 hgrow6 hnil6 hloc6
                go_wp2_with fail
                go_roundw
                case rel => exact ⟨c + 1, by omega, by go_num, M10, I10⟩
                case measure => simp [intOf]; omega
              · have tk : decide ((k : Int) < (G.length : Int)) = false := decide_eq_false (by omega)
                clear hk
                go_wp2_with (at_builtin; refine wpList_append_own_at _ rfl (.tmp 73) (.tmp 75) 24 rfl B 3 i0 (.int .i64 0) 1 8 Tryd.underlying24 hi0 hz0 hz1 hz2 rfl (by decide) _ _ _ rfl (R9.out.alloc _) ⟨_, 0, none⟩ 1 1 [iv (((a : Nat) : Int))] rfl rfl (cell_nwb _ [iv (((a : Nat) : Int))] _ _ (by simp)) (iv_one _) (by unfold maxLen; omega) (by omega) (by simp; omega) ?_; intro v6 w6 hown6 hgrow6 hnil6 hloc6)
                have hx6 : Ext wr (wr.alloc (.cells #[iv (((a : Nat) : Int))] 3)) := by go_grown
                have M10 := Lib.hid (Fam.perm (Fam.grow (Fam.perm M8.out (List.Perm.swap _ _ _)) hx6 hgrow6 (by rw [HRL.out]; exact hown6) hloc6) (List.Perm.swap _ _ _))
                have I10 := Lib.hid (I8.out.grow R9.out hx6 hgrow6 HGB.out.1 HGB.out.2.1)
                rw [← HRX.out] at M10
                clear hx6 hown6 hgrow6 hnil6 hloc6
                go_wp2_with fail
                go_roundw
                case rel => exact ⟨c + 1, by omega, by go_num, M10, I10⟩
                case measure => simp [intOf]; omega
        · obtain rfl : c = 256 := by omega
          have FO' := hM.out.en _ (List.mem_cons_self ..)
          have RO' := hM.out.en _ (List.mem_cons_of_mem _ (List.mem_cons_self ..))
          have LO' := hM.out.en _ (List.mem_cons_of_mem _ (List.mem_cons_of_mem _ (List.mem_cons_self ..)))
          rw [bfsR_len] at RO'
          obtain ⟨ar, cr, hu8⟩ := own_shp RO'
          have hu8 : u8 = .slice ar 256 cr := hu8
          subst hu8
          have hBw := Lib.hid (show B ≤ wr.heap.size by have := HGB.out.1; have := hI.out.ex.size; have := hI.out.xb.lt; omega)
          obtain ⟨aN, kN, hvN⟩ := own_shp hI.out.rn
          subst hvN
          have x0 : wr.cell? ⟨B + 1, 0, none⟩ = some (.slice aN i kN) := hI.out.xb.cell 0
          have NO := Lib.hid hI.out.rn
          have hBw' := hBw.out
          have nbx := Lib.hid (own_ne_blk hI.out.rn hI.out.xb (by decide))
          clear FO' RO' LO'
          go_upto_region 25 with (at_builtin; refine wpList_append_own_at _ rfl (.tmp 78) (.tmp 80) 23 rfl B 24 j0 nilS 1 24 Tryd.underlying23 hj0 hy0 hy1 hy2 rfl (by decide) _ _ _ rfl (NO.out.alloc _) ⟨_, 0, none⟩ 1 1 [.slice ar 256 cr] rfl rfl (cell_nwb _ [.slice ar 256 cr] _ _ (by simp)) (fun u hu => by rw [List.mem_singleton.1 hu]; rfl) (by unfold maxLen; omega) (by omega) (by simp; omega) ?_; intro v5 w5 hown5 hgrow5 hnil5 hloc5; obtain ⟨a5, k5, e5⟩ := own_shp hown5; subst e5; have hb5 : Blk w5 (B + 1) #[.slice aN i kN, vl] 26 := (hI.out.xb.alloc _).grownBy hgrow5 nbx.out; have f5 := hb5.cell 0; have f6 := hb5.free 0)
          have EXh := hI.out.ex
          have hx5 : Ext wr (wr.alloc (.cells #[.slice ar 256 cr] 24)) := by go_grown
          have FM : Fam w5 B ((u5, (bfsF (tn d C) ci (256 * i + 256)).map ci) :: (.slice ar 256 cr, bfsR (tn d C) ci i 256) :: (vl, (bfsD (tn d C) ci d.lab i).lb) :: rs) :=
            hM.out.kept hx5 hgrow5 (fun g hg q hq => own_ne_own (hM.out.en q hq) NO.out (by decide) g hg)
          have FM := Lib.hid (FM.put (k := 0) (u := .slice a5 (i + 1) k5) hb5 (by decide))
          have RN5 := Lib.hid (own_set (b := B + 1) (i := 0) (u := .slice a5 (i + 1) k5) hown5 (own_ne_blk hown5 hb5 (by decide)))
          have XB5 := Lib.hid (show Blk (w5.setCell ⟨B + 1, 0, none⟩ (.slice a5 (i + 1) k5)) (B + 1) #[.slice a5 (i + 1) k5, vl] 26 from hb5.set 0 (.slice a5 (i + 1) k5))
          have C5 : CW w5 g n C := World.ownsRow.kept (hI.out.cw.ext hx5) hgrow5 (.inr (fun q => absurd (World.ownsRow.lt NO.out g q.symm).1 (by have := HGB.out.2.1; omega)))
          have CW5 := Lib.hid (C5.other (b := B + 1) (i := 0) (show g ≠ B + 1 by have := HGB.out.2.1; omega) (.slice a5 (i + 1) k5))
          have EX5 := Lib.hid ((ext_gr (bel_call EXh hx5) hgrow5 (NO.out.alloc _) HGB.out.1).setCell (p := ⟨B + 1, 0, none⟩) (show w0.heap.size ≤ B + 1 by have := HGB.out.1; omega) (.slice a5 (i + 1) k5))
          clear hb5 f5 f6 hown5 hgrow5 hnil5 hloc5 hx5 EXh x0 nbx NO hM hI hBw hBw'
          generalize w5.setCell ⟨B + 1, 0, none⟩ (.slice a5 (i + 1) k5) = w6 at *
          clear C5
          have hbase : B ≤ w6.heap.size := by have := XB5.out.lt; omega
          have hG1 : 1 ≤ (bfsF (tn d C) ci (256 * i + 256)).length := bfs_len_mono (j := 0) (Nat.zero_le _)
          have hGn := HFN.out (256 * i + 256)
          have hiG : i < (bfsF (tn d C) ci (256 * i + 256)).length := Nat.lt_of_lt_of_le (by rw [HFE.out]; exact hil) (bfs_len_mono (show 256 * i ≤ 256 * i + 256 by omega))
          have hGs : (bfsF (tn d C) ci (256 * i + 256)).getD i 0 = s := by
            rw [bfs_get (j := 256 * i) (by omega) (by rw [HFE.out]; exact hil), HFE.out]; exact HSE.out
          have GO : w6.ownsRow B 3 1 u5 (bfsF (tn d C) ci (256 * i + 256)).length ((bfsF (tn d C) ci (256 * i + 256)).map nv) := by
            have := FM.out.en _ (List.mem_cons_self ..)
            simpa [Function.comp_def, ci] using this
          have LO := FM.out.en _ (List.mem_cons_of_mem _ (List.mem_cons_of_mem _ (List.mem_cons_self ..)))
          obtain ⟨gG, cG, rfl, _, hgG, hgGl, _⟩ := own_some GO hG1
          have hdj : ∀ g, vl.ownBlock = some g → gG ≠ g := fun g' e q => (List.pairwise_cons.1 FM.out.dj).1 _ (List.mem_cons_of_mem _ (List.mem_cons_self ..)) gG rfl (by rw [q]; exact e)
          obtain ⟨Gs, hGq⟩ : ∃ G, bfsF (tn d C) ci (256 * i + 256) = G := ⟨_, rfl⟩
          rw [hGq] at hG1 hGn hiG hGs GO FM ⊢
          obtain ⟨ls, hls⟩ : ∃ ls, (bfsD (tn d C) ci d.lab i).lb = ls := ⟨_, rfl⟩
          have hlsl : ls.length = i := by rw [← hls, bfsD_len.2]
          rw [hls] at FM
          have LO : w6.ownsRow B 3 1 vl i (ls.map iv) := by
            have : w6.ownsRow B 3 1 vl (bfsD (tn d C) ci d.lab i).lb.length ((bfsD (tn d C) ci d.lab i).lb.map iv) := LO
            rw [hls, hlsl] at this; exact this
          obtain ⟨aL, kL, rfl⟩ := own_shp LO
          obtain ⟨bL, oL, rfl, hbL, hcL, -⟩ := H2.out.cell (k := s) (by rw [HL.out]; exact hs1)
          obtain ⟨y, hy⟩ : ∃ y, d.lab s = y := ⟨_, rfl⟩
          have hyy : d.lb[s]'(by rw [HL.out]; exact hs1) = y := by rw [← hy]; unfold Dd.lab; rw [getD_get (by rw [HL.out]; exact hs1)]
          rw [hyy] at hcL
          have hw0 : w.heap.size < w0.heap.size := HBX.out.lt
          have K1 := Lib.hid (show w6.cell? ⟨B + 1, 1, none⟩ = some (.slice aL i kL) from XB5.out.cell 1)
          have K2 := Lib.hid (show w6.cell? ⟨w.heap.size, 1, none⟩ = _ from (HBX.out.ext EX5.out).cell 1)
          have k3 := nat_cell GO hiG rfl
          rw [hGs] at k3
          have K3 := Lib.hid k3
          have K4 := Lib.hid (show w6.cell? ⟨bL, oL + s, none⟩ = _ from (EX5.out.cell (p := ⟨bL, oL + s, none⟩) hbL).trans hcL)
          have HX := Lib.hid (fun g (hg : (Value.slice aL i kL).ownBlock = some g) => LO.lt g hg)
          have HKN := Lib.hid (fun g (h1 : (Value.slice aL i kL).ownBlock ≠ some g) => kf2_none (X2 := none) (ys1 := ls.map iv ++ [iv y]) (ys2 := []) h1 (by simp))
          have HKH := Lib.hid (fun g (hg : w6.heap.size ≤ g) => HKN.out g (fun q => by have := HX.out g q; omega))
          have HKB := Lib.hid (fun g (hg : g < B) => HKN.out g (fun q => by have := HX.out g q; omega))
          have hB0 := HGB.out.1
          have nLb := Lib.hid (HKN.out (B + 1) (own_ne_blk LO XB5.out (by decide)))
          have nB := Lib.hid (HKB.out w.heap.size (by omega))
          have nL := Lib.hid (HKB.out bL (by omega))
          have nG := Lib.hid (HKN.out gG (fun q => hdj gG q rfl))
          have OL := Lib.hid LO
          have HLS := Lib.hid hls
          have HYY := Lib.hid hy
          have HGE := Lib.hid hGq
          clear k3 GO LO hls hy hyy hcL hGq hGs hdj
          have HLL := Lib.hid hlsl
          clear hlsl hu8
          refine G.wp_region_tail (G := LkF (kf2 (Value.slice aL i kL).ownBlock (ls.map iv ++ [iv y]) none [])) (RsL 10 11 10 11 (OneV w6.heap.size 3 [iv y]) (AppR w6.heap.size B 3 1 (i + 1) (Value.slice aL i kL).ownBlock (ls.map iv ++ [iv y])) (OneV w6.heap.size 3 [iv y]) (AppR w6.heap.size B 3 1 (i + 1) (Value.slice aL i kL).ownBlock (ls.map iv ++ [iv y]))) 13 (by kernel_rfl) (by kernel_rfl) (RsL_mono (OneV_lkf _ HKH.out _ _) (AppR_lkf _ _ _ _ _ _ _ (kf2_app1 (fun g hg => (HX.out g hg).2) (fun g hg => by cases hg))) (OneV_lkf _ HKH.out _ _) (AppR_lkf _ _ _ _ _ _ _ (kf2_app1 (fun g hg => (HX.out g hg).2) (fun g hg => by cases hg)))) (fun hex => ?_)
          simp only [List.take_succ_cons, List.take_zero, List.drop_succ_cons, List.drop_zero]
          iterate 10
            (refine G.wpS_one (A := ?_) hex rfl rfl (by simp) ?_ ?_ ?_
             rotate_left 2
             · intro w' hC K hK
               have z1 := lkf_cell hC.1 nLb.out K1.out; have z2 := lkf_cell hC.1 nB.out K2.out; have z3 := lkf_cell hC.1 nG.out K3.out; have z4 := lkf_cell hC.1 nL.out K4.out
               go_wp2_with (fail)
               refine hK _ ?_
               first | exact LkF.refl _ | exact LkF.of_ext (by assumption)
             rotate_left 1
             · rfl
             clear hex; intro hex)
          refine G.wpS_rel (OneV (w6.heap.size) (3) ([iv y])) rfl rfl (by simp) (by first | rfl | (simp [Region.wanted, yielded]; done)) ?_ ?_
          · intro w' hC K hK
            simp only [Act.put, List.setIfInBounds_toArray, List.set_cons_succ, List.set_cons_zero] at hK
            go_wp2_with fail
            exact hK _ _ (LkF.of_ext ((Below.refl _ _).alloc (Nat.le_refl _) _)) ⟨_, rfl, Blk.new _ _ _, hC.1.1.2.2.2⟩
          clear hex
          intro v w' hex hv
          replace hex := Exists.intro w' hex
          simp only [Act.put, List.setIfInBounds_toArray, List.set_cons_succ, List.set_cons_zero]
          obtain ⟨b2, rfl, hv, hb2⟩ := hv
          clear hv
          refine G.wpS_rel (AppR w6.heap.size B 3 1 (i + 1) (Value.slice aL i kL).ownBlock (ls.map iv ++ [iv y])) rfl rfl (by simp) (by first | rfl | (simp [Region.wanted, yielded]; done)) ?_ ?_
          · intro w' hC K hK
            simp only [Act.put, List.setIfInBounds_toArray, List.set_cons_succ, List.set_cons_zero] at hK
            obtain ⟨b9, e9, hB9, _⟩ := (hC.2 10 (by simp [Region.binds])).1 rfl
            cases e9
            have hown' := own_lkf OL.out hC.1 (fun g N T hg hK j hj => by rw [kf2_one g hg] at hK; cases hK; exact ⟨by rw [List.length_append]; omega, by simp [List.getElem?_append_left hj]⟩)
            refine wpList_append_lko _ rfl (.tmp 84) (.tmp 93) 24 rfl B 3 i0 _ 1 8 Tryd.underlying24 hi0 hz0 hz1 hz2 rfl (by decide) _ i (ls.map iv) rfl hown' ⟨b2, 0, none⟩ 1 1 [iv y] rfl rfl (World.news_of_block hB9) (iv_one _) (by decide) (by unfold maxLen; omega) (by omega) (Nat.le_trans hbase hC.1.1.2.2.2) ?_
            intro g8 cap8 w8 hown8 hv8 hg8 hlk8
            simp only [wpList]
            refine hK _ _ (LkF.of_lko hlk8 (kf2_one)) ⟨g8, cap8, rfl, hown8, ?_, hg8⟩
            rcases hv8 with h | h
            · exact .inl h
            · exact .inr (by have := hC.1.1.2.2.2; omega)
          clear hex
          intro v w' hex hv
          replace hex := Exists.intro w' hex
          simp only [Act.put, List.setIfInBounds_toArray, List.set_cons_succ, List.set_cons_zero]
          obtain ⟨g6, cap6, rfl, hv, hloc6, hv2⟩ := hv
          clear hv hv2
          refine G.wpS_one (A := ?_) hex rfl rfl (by simp) ?_ ?_ ?_
          rotate_left 2
          · intro w' hC K hK
            go_wp2_with (fail)
            refine hK _ ?_
            first | exact LkF.refl _ | exact LkF.of_ext (by assumption)
          rotate_left 1
          · rfl
          clear hex; intro hex
          refine G.wpS_nil fun w8 hAll => ?_
          obtain ⟨g6', cap6', e6, o6, _, _⟩ := (hAll.2 11).1 rfl
          cases e6
          have B8 := hAll.1.blk XB5.out nLb.out
          have x1' := B8.cell 1
          have f1 := B8.free 1
          have FA := Fam.perm FM.out (List.perm_middle (l₁ := [_, _]) (l₂ := rs))
          have o6' : w8.ownsRow B 3 1 (.slice (some ⟨g6, 0, none⟩) (i + 1) cap6) (ls.length + 1) (ls.map iv ++ [iv y]) := by rw [HLL.out]; exact o6
          have FB := (Fam.lkf FA hAll.1 o6' rfl hloc6).put (k := 1) (u := .slice (some ⟨g6, 0, none⟩) (i + 1) cap6) B8 (by decide)
          have FC := Fam.perm FB ((List.Perm.swap _ _ _).trans (((List.perm_append_singleton _ _).symm.cons _).cons _))
          have R8 := own_lkf RN5.out hAll.1 (fun g N T hg hK j hj => by rw [HKN.out g (fun q => own_ne_own RN5.out OL.out (by decide) g q hg)] at hK; cases hK)
          have R9 := own_set (b := B + 1) (i := 1) (u := .slice (some ⟨g6, 0, none⟩) (i + 1) cap6) R8 (own_ne_blk R8 B8 (by decide))
          have C8 : CW w8 g n C := own_lkf CW5.out hAll.1 (fun g' N T hg hK j hj => by
            have e : g = g' := Option.some.inj hg
            rw [← e, HKB.out g HGB.out.2.1] at hK; cases hK)
          have C9 := C8.other (b := B + 1) (i := 1) (show g ≠ B + 1 by have := HGB.out.2.1; omega) (.slice (some ⟨g6, 0, none⟩) (i + 1) cap6)
          have BB := hAll.1.below hbase (fun k hk => HKB.out k hk)
          have E9 := Lib.hid ((Below.trans EX5.out (show Below w0.heap.size w6 w8 from ⟨BB.os, BB.tape, BB.output, BB.size, fun k hk => BB.block k (by omega)⟩)).setCell (p := ⟨B + 1, 1, none⟩) (show w0.heap.size ≤ B + 1 by omega) (.slice (some ⟨g6, 0, none⟩) (i + 1) cap6))
          have X9 := B8.set 1 (.slice (some ⟨g6, 0, none⟩) (i + 1) cap6)
          have L9 := Lib.hid (show Lo12 (w8.setCell ⟨B + 1, 1, none⟩ (.slice (some ⟨g6, 0, none⟩) (i + 1) cap6)) B (B + 1) g n d C (i + 1) (.slice (some ⟨gG, 0, none⟩) Gs.length cG) (.slice a5 (i + 1) k5) (.slice (some ⟨g6, 0, none⟩) (i + 1) cap6) (rs ++ [(.slice ar 256 cr, bfsR (tn d C) ci i 256)]) from
            ⟨by
              rw [bfsD_lb, HLS.out, HFE.out, HSE.out, HYY.out, show 256 * (i + 1) = 256 * i + 256 by omega, HGE.out]
              exact FC, by
              rw [bfsD_nx, List.map_append, HRS.out]; rfl, by
              rw [List.map_append]; exact R9, X9, C9⟩)
          have J9 := Lib.hid (show ∀ j, j < i + 1 → j < (bfsF (tn d C) ci (256 * j)).length from fun j hj => by
            rcases Nat.lt_or_ge j i with q | q
            · exact hJ.out j q
            · obtain rfl : j = i := by omega
              rw [HFE.out]; exact hil)
          have hin : i < n := by omega
          clear hAll hex o6 o6' hloc6 B8 FA FB FC R8 R9 C8 C9 BB X9 K1 K2 K3 K4 nLb nB nL nG OL
          go_wp2_with fail
          go_roundw
          case rel => exact ⟨i + 1, by omega, by go_num, _, _, _, L9, J9, E9⟩
          case measure => simp [intOf]; omega
    · have hiF : F.length = i := by
        rcases Nat.eq_zero_or_pos i with q | q
        · omega
        · have h1 := hJ.out (i - 1) (by omega)
          have h2 : (bfsF (tn d C) ci (256 * (i - 1))).length ≤ F.length := by rw [← HFE.out]; exact bfs_len_mono (by omega)
          omega
      have HCN := Lib.hid (ler_canon HO.out HN.out HF.out (N := i) (by rw [HFE.out]; exact hiF) hJ.out)
      have ON := hL.out.rn
      rw [show i = (bfsD (tn d C) ci d.lab i).nx.length from bfsD_len.1.symm] at ON
      rw [bfsD_len.1] at ON
      have OD := Fam.ownD hL.out.fam hL.out.rows (by rw [bfsD_len.1]; exact hL.out.rn)
      obtain ⟨aN, kN, rfl⟩ := own_shp hL.out.rn
      have LO := hL.out.fam.en _ (List.mem_cons_of_mem _ (List.mem_cons_self ..))
      have LO : wr.ownsRow B 3 1 vl (bfsD (tn d C) ci d.lab i).lb.length ((bfsD (tn d C) ci d.lab i).lb.map iv) := LO
      rw [bfsD_len.2] at LO
      obtain ⟨aL, kL, rfl⟩ := own_shp LO
      have BR := HBR.out.ext hE.out
      have BF := HBF.out.ext hE.out
      have hBF : w.heap.size + 1 + 1 < B := Nat.lt_of_lt_of_le HBF.out.lt HGB.out.1
      have hw0 : w.heap.size ≤ w0.heap.size := HEB.out.size
      have x0 : wr.cell? ⟨B + 1, 0, none⟩ = some (.slice aN i kN) := hL.out.xb.cell 0
      have x1 : wr.cell? ⟨B + 1, 1, none⟩ = some (.slice aL i kL) := hL.out.xb.cell 1
      have p0 : wr.cell? ⟨w.heap.size + 1, 0, none⟩ = some nilS := BR.cell 0
      have p1 : (wr.setCell ⟨w.heap.size + 1, 0, none⟩ (.slice aN i kN)).cell? ⟨w.heap.size + 1, 1, none⟩ = some nilS := (BR.set 0 (.slice aN i kN)).cell 1
      have g0 := BR.free 0
      have g1 := (BR.set 0 (.slice aN i kN)).free 1
      have BZ := (BR.set 0 (.slice aN i kN)).set 1 (.slice aL i kL)
      have FZ := (BF.set_other (a := ⟨w.heap.size + 1, 0, none⟩) (by show w.heap.size + 1 ≠ w.heap.size + 1 + 1; omega) (.slice aN i kN)).set_other (a := ⟨w.heap.size + 1, 1, none⟩) (by show w.heap.size + 1 ≠ w.heap.size + 1 + 1; omega) (.slice aL i kL)
      have OD9 := Lib.hid (((OD.put (b := w.heap.size + 1) (k := 0) (u := .slice aN i kN) (by omega)).put (b := w.heap.size + 1) (k := 1) (u := .slice aL i kL) (by omega)).mono (show w.heap.size ≤ B by omega))
      have EX9 := Lib.hid ((((bel_call HEB.out hE.out).setCell (p := ⟨w.heap.size + 1, 0, none⟩) (by show w.heap.size ≤ w.heap.size + 1; omega) (.slice aN i kN))).setCell (p := ⟨w.heap.size + 1, 1, none⟩) (by show w.heap.size ≤ w.heap.size + 1; omega) (.slice aL i kL))
      obtain ⟨wz, hwz⟩ : ∃ wz, (wr.setCell ⟨w.heap.size + 1, 0, none⟩ (.slice aN i kN)).setCell ⟨w.heap.size + 1, 1, none⟩ (.slice aL i kL) = wz := ⟨_, rfl⟩
      rw [hwz] at BZ FZ OD9 EX9
      have r0 : wz.cell? ⟨w.heap.size + 1, 0, none⟩ = some (.slice aN i kN) := BZ.cell 0
      have r1 : wz.cell? ⟨w.heap.size + 1, 1, none⟩ = some (.slice aL i kL) := BZ.cell 1
      have q0 : wz.cell? ⟨w.heap.size + 1 + 1, 0, none⟩ = some (.int .i64 0) := FZ.cell 0
      have f0 := FZ.free 0
      have s0 : wz.setCell ⟨w.heap.size + 1 + 1, 0, none⟩ (.int .i64 0) = wz := set_same FZ rfl
      have q1 : wz.cell? ⟨w.heap.size + 1 + 1, 1, none⟩ = some (.int .i64 0) := FZ.cell 1
      have f1 := FZ.free 1
      have s1 : wz.setCell ⟨w.heap.size + 1 + 1, 1, none⟩ (.int .i64 0) = wz := set_same FZ rfl
      have q2 : wz.cell? ⟨w.heap.size + 1 + 1, 2, none⟩ = some (.int .i64 0) := FZ.cell 2
      have f2 := FZ.free 2
      have s2 : wz.setCell ⟨w.heap.size + 1 + 1, 2, none⟩ (.int .i64 0) = wz := set_same FZ rfl
      have q3 : wz.cell? ⟨w.heap.size + 1 + 1, 3, none⟩ = some (.int .i64 0) := FZ.cell 3
      have f3 := FZ.free 3
      have s3 : wz.setCell ⟨w.heap.size + 1 + 1, 3, none⟩ (.int .i64 0) = wz := set_same FZ rfl
      have q4 : wz.cell? ⟨w.heap.size + 1 + 1, 4, none⟩ = some (.slice none 0 0) := FZ.cell 4
      have f4 := FZ.free 4
      have s4 : wz.setCell ⟨w.heap.size + 1 + 1, 4, none⟩ (.slice none 0 0) = wz := set_same FZ rfl
      clear BR BF BZ FZ OD ON LO hJ hL FO
      go_wp2_with fail
      refine bodyPost_ret (v := .tuple #[.agg #[.slice aN i kN, .slice aL i kL], nof]) ?_ rfl ?_
      · simp [results, Tryd.results5, go_sem, nof, q0, q1, q2, q3, q4, r0, r1]
      · exact ⟨_, _, _, rfl, HCN.out, ⟨_, OD9.out⟩, EX9.out⟩
end Go.Proofs.YtnnkomdkggepjaaDoor
namespace Go.Proofs.YtnnkomdkggepjaaDoor
open Go Go.RowKit
theorem own_blw {w w' : World} {b e sz n B : Nat} {v : Value} {xs : List Value} (h : w.ownsRow b e sz v n xs) (hb : Below B w w') (hB : w.heap.size ≤ B) : w'.ownsRow b e sz v n xs := by
  obtain ⟨h1, h2 | ⟨g, cap, cur, hv, hg, hh, h3, h4, h5, h6⟩⟩ := h
  · exact ⟨h1, .inl h2⟩
  · exact ⟨h1, .inr ⟨g, cap, cur, hv, hg, by rw [hb.block g (Nat.lt_of_lt_of_le (Array.getElem?_eq_some_iff.1 hh).1 hB)]; exact hh, h3, h4, h5, h6⟩⟩
/-- 'v' is the error at 'a' in the wrappers 'K'. -/
def ErrOf (w : World) (K : List Wr) (v : Value) (a : Addr) : Prop := ∃ L, Chain w L v (errAt a) ∧ Wraps w K L ∧ deep v ≤ w.heap.size ∧ ∃ c t, w.heap[a.block]? = some (.cells c t (0, 0))
theorem ErrOf.ext {w w' : World} {K : List Wr} {v : Value} {a : Addr} (h : ErrOf w K v a) (hx : Ext w w') : ErrOf w' K v a := by
  obtain ⟨L, hL, hW, hv, ca, ta, ha⟩ := h
  exact ⟨L, hL.ext hx, hW.ext hx, Nat.le_trans hv hx.size, ca, ta, by rw [hx.block _ (Array.getElem?_eq_some_iff.1 ha).1]; exact ha⟩
theorem ErrOf.iface {w : World} {K : List Wr} {v : Value} {a : Addr} (h : ErrOf w K v a) : ∃ T x, v = .iface T x := by
  obtain ⟨L, hL, _⟩ := h
  exact Chain.iface hL
theorem ErrOf.base {w : World} {a : Addr} (h : ∃ c t, w.heap[a.block]? = some (.cells c t (0, 0))) : ErrOf w [] (errAt a) a := by
  obtain ⟨c, t, hc⟩ := h
  exact ⟨[], rfl, trivial, (Array.getElem?_eq_some_iff.1 hc).1, c, t, hc⟩
theorem tell_err (ea : Nat → Addr) (a : Addr) (K : List Wr) (v : Value) (w : World) (hS : Sent w ea) (hG : ErrT w) (h : ErrOf w K v a) :
    Calls Tryd.prog 24 #[v] w fun e w' => ∃ f, e = .returned f ∧ Fault w' f (codeAt ea a 16 0) (tStage K) (tRule K) (tAt K) (tNames K) ∧ Below w.heap.size w w' := by
  obtain ⟨L, hL, hW, _, ha⟩ := h
  exact tell_is ea a K L v w hS hG hL hW ha
theorem code_err (ea : Nat → Addr) (a : Addr) (K : List Wr) (v : Value) (w : World) (hS : Sent w ea) (h : ErrOf w K v a) :
    Calls Tryd.prog 40 #[v] w fun e w' => e = .returned (.int .i64 (codeAt ea a 16 0)) ∧ Below w.heap.size w w' := by
  obtain ⟨L, hL, _, _, ha⟩ := h
  exact code_is ea a L v w hS hL ha
theorem new_err (s : ByteArray) (w : World) :
    Calls Tryd.prog 111 #[.string s] w fun e w' => e = .returned (errAt ⟨w.heap.size, 0, none⟩) ∧ ErrOf w' [] (errAt ⟨w.heap.size, 0, none⟩) ⟨w.heap.size, 0, none⟩ ∧ Below w.heap.size w w' := by
  have hb := Blk.new w #[.string s] 178
  go_enter Tryd.func111, Tryd.ntmps111
  go_wp2
  go_ret
  exact ⟨rfl, ErrOf.base ⟨_, _, hb⟩, by go_grown⟩
end Go.Proofs.YtnnkomdkggepjaaDoor
namespace Go.Proofs.YtnnkomdkggepjaaDoor
open Go Go.RowKit
set_option maxHeartbeats 1000000 in
theorem eqfault_any (f g : Value) (c s r t c' s' r' t' : Int) (l l' : List ByteArray) (w : World) (hf : Fault w f c s r t l) (hg : Fault w g c' s' r' t' l') (q : Bool) (hq : decide (c = c' ∧ s = s' ∧ r = r' ∧ t = t' ∧ l = l') = q) :
    Calls Tryd.prog 23 #[f, g] w fun e w' => e = .returned (.bool q) ∧ Below w.heap.size w w' := by
  obtain ⟨x, rfl, hx⟩ := hf
  obtain ⟨y, rfl, hy⟩ := hg
  have hE : Ext w ((w.alloc (.cells #[.int .i64 c, .int .i64 s, .int .i64 r, .int .i64 t, x] 30)).alloc (.cells #[.int .i64 c', .int .i64 s', .int .i64 r', .int .i64 t', y] 30)) := by go_grown
  have heq := eqtexts_any x y l l' _ (hx.ext hE) (hy.ext hE)
  obtain ⟨b, hb⟩ : ∃ b, decide (l = l') = b := ⟨_, rfl⟩
  rw [hb] at heq
  obtain ⟨xa, xc, rfl⟩ := hx.slice
  obtain ⟨ya, yc, rfl⟩ := hy.slice
  clear hx hy
  by_cases h1 : c = c'
  · subst h1
    by_cases h2 : s = s'
    · subst h2
      by_cases h3 : r = r'
      · subst h3
        by_cases h4 : t = t'
        · subst h4
          have hqb : b = q := by rw [← hq, ← hb]; simp
          clear hq hb
          subst hqb
          go_enter Tryd.func23, Tryd.ntmps23
          go_wp2_with fail
          refine heq.mono ?_
          rintro e w1 ⟨rfl, hE2⟩
          go_wp2
          go_ret
          exact ⟨rfl, bel_call hE hE2⟩
        · have hqf : false = q := by rw [← hq]; simp [h4]
          subst hqf
          have hd : (t == t') = false := by simpa using h4
          have hd2 : decide (t = t') = false := by simpa using h4
          clear heq
          go_enter Tryd.func23, Tryd.ntmps23
          go_wp2
          go_ret
          exact ⟨rfl, hE⟩
      · have hqf : false = q := by rw [← hq]; simp [h3]
        subst hqf
        have hd : (r == r') = false := by simpa using h3
        have hd2 : decide (r = r') = false := by simpa using h3
        clear heq
        go_enter Tryd.func23, Tryd.ntmps23
        go_wp2
        go_ret
        exact ⟨rfl, hE⟩
    · have hqf : false = q := by rw [← hq]; simp [h2]
      subst hqf
      have hd : (s == s') = false := by simpa using h2
      have hd2 : decide (s = s') = false := by simpa using h2
      clear heq
      go_enter Tryd.func23, Tryd.ntmps23
      go_wp2
      go_ret
      exact ⟨rfl, hE⟩
  · have hqf : false = q := by rw [← hq]; simp [h1]
    subst hqf
    have hd : (c == c') = false := by simpa using h1
    have hd2 : decide (c = c') = false := by simpa using h1
    clear heq
    go_enter Tryd.func23, Tryd.ntmps23
    go_wp2
    go_ret
    exact ⟨rfl, hE⟩
end Go.Proofs.YtnnkomdkggepjaaDoor
namespace Go.Proofs.YtnnkomdkggepjaaDoor
open Go Go.RowKit
theorem code_at {w : World} {ea : Nat → Addr} (h : Sent w ea) : ∀ f k j, f + k = 16 → j < 16 → k ≤ j → codeAt ea (ea j) f k = (j : Int) + 2
  | 0, k, j, hf, hj, hk => by omega
  | f + 1, k, j, hf, hj, hk => by
    unfold codeAt
    by_cases e : ea j = ea k
    · rw [if_pos e]
      have := h.inj j k hj (by omega) e
      omega
    · rw [if_neg e]
      have : k ≠ j := fun e2 => e (by rw [e2])
      exact code_at h f (k + 1) j (by omega) hj (by omega)
def RsG (k : Nat) (c s r t : Int) (l : List ByteArray) : Nat → Option (Value → World → Prop) := fun j => if j = k then some (fun v w => Fault w v c s r t l) else none
theorem RsG_mono (k : Nat) (c s r t : Int) (l : List ByteArray) : G.RsMono Ext (RsG k c s r t l) := by
  intro j R h
  unfold RsG at h
  split at h
  · cases h; exact fun v w w' hx hR => Fault.ext hR hx
  · cases h
theorem same_nil8 (f : Value) (s r t : Int) (l : List ByteArray) (w : World) (hf : Fault w f 0 s r t l) :
    Calls Tryd.prog 9 #[.nilIface, f] w fun e w' => e = .returned (.bool true) ∧ Ext w w' := by
  obtain ⟨ns, rfl, hns⟩ := hf
  obtain ⟨na, nc, rfl⟩ := hns.slice
  clear hns
  go_enter Tryd.func9, Tryd.ntmps9
  go_wp2_with fail
  go_ret
  exact ⟨rfl, by go_grown⟩
set_option maxHeartbeats 1000000 in
set_option maxRecDepth 20000 in
theorem same_err8 (ea : Nat → Addr) (K : List Wr) (v f : Value) (aX : Addr) (c s r t : Int) (l : List ByteArray) (w : World) (hS : Sent w ea) (hG : ErrT w) (h : ErrOf w K v aX)
    (hc : codeAt ea aX 16 0 = c) (hs : tStage K = s) (hr : tRule K = r) (ht : tAt K = t) (hl : tNames K = l) (hc0 : (c != 0) = true) (hf : Fault w f c s r t l) :
    Calls Tryd.prog 9 #[v, f] w fun e w' => e = .returned (.bool true) ∧ Ext w w' := by
  have hgok : G.GOK Ext := ⟨fun w => Below.refl _ w, fun h k => bel_call h k, fun _ => ⟨rfl, rfl, rfl, Nat.le_refl _, fun _ _ => rfl⟩⟩
  have HF := Lib.hid hf
  obtain ⟨ns, rfl, hns⟩ := hf
  obtain ⟨na, nc, rfl⟩ := hns.slice
  have HTl := Lib.hid (fun w hS hG h => tell_err ea aX K v w hS hG h)
  rw [hc, hs, hr, ht, hl] at HTl
  have hx0 : Ext w (w.alloc (.cells #[.int .i64 c, .int .i64 s, .int .i64 r, .int .i64 t, .slice na l.length nc] 30)) := by go_grown
  have hb0 := Blk.new w #[.int .i64 c, .int .i64 s, .int .i64 r, .int .i64 t, .slice na l.length nc] 30
  have HX0 := Lib.hid hx0
  have HB0 := Lib.hid hb0
  have HH := Lib.hid h
  have HK := Lib.hid (And.intro hS hG)
  obtain ⟨T, y, rfl⟩ := h.iface
  clear hns hx0 hb0 hS hG h hc hs hr ht hl
  go_enter Tryd.func9, Tryd.ntmps9
  go_wp2_with fail
  generalize hp : w.heap.size = p at HB0 ⊢
  replace hp := Lib.hid hp
  generalize w.alloc (.cells #[.int .i64 c, .int .i64 s, .int .i64 r, .int .i64 t, .slice na l.length nc] 30) = w1 at HX0 HB0 ⊢
  refine G.wp_region_stab (G := Ext) (RsG 5 c s r t l) (by kernel_rfl) (by kernel_rfl) (RsG_mono _ _ _ _ _ _) (fun hex => ?_)
  iterate 5
    (refine G.wpS_one (A := ?_) hex rfl rfl (by simp) ?_ ?_ ?_
     rotate_left 2
     · intro w' hC K hK
       obtain ⟨p0, p1, p2, p3, p4⟩ := (HB0.out.ext hC.1).cells5
       go_wp2_with (fail)
       refine hK _ ?_
       first | exact Below.refl _ _ | assumption | ((repeat' (first | (with_reducible exact Below.refl _ _) | (with_reducible assumption) | (with_reducible refine below_drewN ?_ _) | (with_reducible refine Below.alloc ?_ ?_ _) | (with_reducible refine Below.drew ?_) | (with_reducible refine Below.setCell ?_ ?_ _) | (with_reducible refine Below.trans ?_ (Below.mono (by with_reducible assumption) ?_)) | go_size)))
     rotate_left 1
     · rfl
     clear hex; intro hex)
  refine G.wpS_rel (fun v w => Fault w v c s r t l) rfl rfl (by simp) (by first | rfl | (simp [Region.wanted, yielded]; done)) ?_ ?_
  · intro w' hC K hK
    simp only [Act.put, List.setIfInBounds_toArray, List.set_cons_succ, List.set_cons_zero] at hK
    go_wp2_with (refine (HTl.out _ (HK.out.1.ext (bel_call HX0.out hC.1)) (HK.out.2.ext (bel_call HX0.out hC.1)) (HH.out.ext (bel_call HX0.out hC.1))).mono ?_; rintro e w2 ⟨v', rfl, h2, hE1⟩)
    refine hK _ _ ?_ ?_
    · first | exact Below.refl _ _ | assumption | ((repeat' (first | (with_reducible exact Below.refl _ _) | (with_reducible assumption) | (with_reducible refine below_drewN ?_ _) | (with_reducible refine Below.alloc ?_ ?_ _) | (with_reducible refine Below.drew ?_) | (with_reducible refine Below.setCell ?_ ?_ _) | (with_reducible refine Below.trans ?_ (Below.mono (by with_reducible assumption) ?_)) | go_size)))
    · exact h2
  clear hex
  intro v1 w' hex hv1
  replace hex := Exists.intro w' hex
  simp only [Act.put, List.setIfInBounds_toArray, List.set_cons_succ, List.set_cons_zero]
  refine G.wpS_one (A := ?_) hex rfl rfl (by simp) ?_ ?_ ?_
  rotate_left 2
  · intro w' hC K hK
    obtain ⟨p0, p1, p2, p3, p4⟩ := (HB0.out.ext hC.1).cells5
    go_wp2_with (fail)
    refine hK _ ?_
    first | exact Below.refl _ _ | assumption | ((repeat' (first | (with_reducible exact Below.refl _ _) | (with_reducible assumption) | (with_reducible refine below_drewN ?_ _) | (with_reducible refine Below.alloc ?_ ?_ _) | (with_reducible refine Below.drew ?_) | (with_reducible refine Below.setCell ?_ ?_ _) | (with_reducible refine Below.trans ?_ (Below.mono (by with_reducible assumption) ?_)) | go_size)))
  rotate_left 1
  · rfl
  clear hex; intro hex
  refine G.wpS_one (A := ?_) hex rfl rfl (by simp) ?_ ?_ ?_
  rotate_left 2
  · intro w' hC K hK
    have hF1 := (hC.2 5 (by simp [Region.binds])).1 rfl
    go_wp2_with (refine (eqfault_any v1 _ c s r t c s r t l l _ hF1 (HF.out.ext (bel_call HX0.out hC.1)) true (by simp)).mono ?_; rintro e w2 ⟨rfl, hE1⟩)
    refine hK _ ?_
    first | exact Below.refl _ _ | assumption | ((repeat' (first | (with_reducible exact Below.refl _ _) | (with_reducible assumption) | (with_reducible refine below_drewN ?_ _) | (with_reducible refine Below.alloc ?_ ?_ _) | (with_reducible refine Below.drew ?_) | (with_reducible refine Below.setCell ?_ ?_ _) | (with_reducible refine Below.trans ?_ (Below.mono (by with_reducible assumption) ?_)) | go_size)))
  rotate_left 1
  · rfl
  clear hex; intro hex
  iterate 2
    (refine G.wpS_one (A := ?_) hex rfl rfl (by simp) ?_ ?_ ?_
     rotate_left 2
     · intro w' hC K hK
       go_wp2_with (fail)
       refine hK _ ?_
       first | exact Below.refl _ _ | assumption | ((repeat' (first | (with_reducible exact Below.refl _ _) | (with_reducible assumption) | (with_reducible refine below_drewN ?_ _) | (with_reducible refine Below.alloc ?_ ?_ _) | (with_reducible refine Below.drew ?_) | (with_reducible refine Below.setCell ?_ ?_ _) | (with_reducible refine Below.trans ?_ (Below.mono (by with_reducible assumption) ?_)) | go_size)))
     rotate_left 1
     · rfl
     clear hex; intro hex)
  refine G.wpS_nil fun w4 hAll => ?_
  have HG := Lib.hid (bel_call HX0.out hAll.1)
  clear hAll hex
  go_wp2_with fail
  go_ret
  exact ⟨rfl, HG.out⟩
end Go.Proofs.YtnnkomdkggepjaaDoor
namespace Go.Proofs.YtnnkomdkggepjaaDoor
open Go Go.ChangeShapes Go.WideShapes Go.ChangeAt Go.RowKit
theorem own : ownKnob Tryd.prog.godebug = none := by kernel_rfl
theorem laidOut : laidOutB Tryd.prog = true := by kernel_rfl
/-- The names of the errors, and their texts. -/
def snm : List String := ["bolter/fault.ErrLong", "bolter/fault.ErrSyntax", "bolter/fault.ErrDeep", "bolter/fault.ErrMany", "bolter/fault.ErrName", "bolter/fault.ErrDefCycle", "bolter/fault.ErrRepeat", "bolter/fault.ErrTooManyPositions", "bolter/fault.ErrTrail", "bolter/fault.ErrTooManyStates", "bolter/fault.ErrImage", "bolter/fault.ErrModeStack", "bolter/fault.ErrClosed", "bolter/fault.ErrArg", "bolter/fault.ErrCommand", "bolter/fault.ErrHandle"]
def stx : List (List UInt8) := [[116, 111, 111, 32, 108, 111, 110, 103], [115, 121, 110, 116, 97, 120], [116, 111, 111, 32, 100, 101, 101, 112], [116, 111, 111, 32, 109, 97, 110, 121], [110, 97, 109, 101], [100, 101, 102, 105, 110, 105, 116, 105, 111, 110, 32, 99, 121, 99, 108, 101], [114, 101, 112, 101, 97, 116], [116, 111, 111, 32, 109, 97, 110, 121, 32, 112, 111, 115, 105, 116, 105, 111, 110, 115], [116, 114, 97, 105, 108, 105, 110, 103, 32, 99, 111, 110, 116, 101, 120, 116], [116, 111, 111, 32, 109, 97, 110, 121, 32, 115, 116, 97, 116, 101, 115], [105, 109, 97, 103, 101], [109, 111, 100, 101, 32, 115, 116, 97, 99, 107], [99, 108, 111, 115, 101, 100], [97, 114, 103, 117, 109, 101, 110, 116], [99, 111, 109, 109, 97, 110, 100], [104, 97, 110, 100, 108, 101]]
abbrev sdat (k : Nat) : DataW Unit := .iface "*errors.errorString" (.ptr (.agg [.lit (.string (stx.getD k []))]))
theorem snm_g : ∀ k, k < 16 → Tryd.prog.globalNamed (snm.getD k "") = some (sg.getD k 0)
  | 0, _ => by kernel_rfl
  | 1, _ => by kernel_rfl
  | 2, _ => by kernel_rfl
  | 3, _ => by kernel_rfl
  | 4, _ => by kernel_rfl
  | 5, _ => by kernel_rfl
  | 6, _ => by kernel_rfl
  | 7, _ => by kernel_rfl
  | 8, _ => by kernel_rfl
  | 9, _ => by kernel_rfl
  | 10, _ => by kernel_rfl
  | 11, _ => by kernel_rfl
  | 12, _ => by kernel_rfl
  | 13, _ => by kernel_rfl
  | 14, _ => by kernel_rfl
  | 15, _ => by kernel_rfl
  | n + 16, h => by omega
theorem snm_t : ∀ k, k < 16 → (Tryd.prog.globals[sg.getD k 0]?).map (·.type) = some 36
  | 0, _ => by kernel_rfl
  | 1, _ => by kernel_rfl
  | 2, _ => by kernel_rfl
  | 3, _ => by kernel_rfl
  | 4, _ => by kernel_rfl
  | 5, _ => by kernel_rfl
  | 6, _ => by kernel_rfl
  | 7, _ => by kernel_rfl
  | 8, _ => by kernel_rfl
  | 9, _ => by kernel_rfl
  | 10, _ => by kernel_rfl
  | 11, _ => by kernel_rfl
  | 12, _ => by kernel_rfl
  | 13, _ => by kernel_rfl
  | 14, _ => by kernel_rfl
  | 15, _ => by kernel_rfl
  | n + 16, h => by omega
theorem stx_inj : ∀ k j, k < 16 → j < 16 → stx.getD k [] = stx.getD j [] → k = j := by
  have h : ((List.range 16).all fun k => (List.range 16).all fun j => !(stx.getD k [] == stx.getD j []) || k == j) = true := by decide +kernel
  intro k j hk hj e
  have h1 := List.all_eq_true.1 (List.all_eq_true.1 h k (List.mem_range.2 hk)) j (List.mem_range.2 hj)
  rw [e] at h1
  simpa using h1
theorem row_err (u : TypeId) (h : Tryd.prog.typeName? 3 u = some "*errors.errorString") : u = 155 :=
  typeName_ptr_named (nm := "errors.errorString") (by rw [show "*" ++ "errors.errorString" = "*errors.errorString" from by decide]; kernel_rfl) (by kernel_rfl) (by decide) u (by rw [show "*" ++ "errors.errorString" = "*errors.errorString" from by decide]; exact h)
theorem laid_pick {P : Program} {W : World} : ∀ {laid : List (String × DataW Unit)} {ps : List MemPlace}, DataW.LaidVars P W laid ps → ∀ {n : String} {d : DataW Unit}, (n, d) ∈ laid →
    ∃ g t cs fuel p, P.globalNamed n = some g ∧ (P.globals[g]?).map (·.type) = some t ∧ W.var? P n = some cs ∧ DataW.trod (fun _ => ()) P W 0 (fun _ => true) false fuel t cs.toList = some (d, p) ∧ ∀ y ∈ MemPlace.row ⟨g, 0, none⟩ cs.size ++ p, y ∈ ps
  | [], _, _, _, _, h => by cases h
  | (_, _) :: _, _, ⟨g, t, cs, fuel, p, _, h1, h2, h3, h4, h5, h6⟩, n, d, h => by
    subst h6
    rcases List.mem_cons.1 h with e | e
    · cases e
      exact ⟨g, t, cs, fuel, p, h1, h2, h3, h4, fun y hy => List.mem_append.2 (.inl hy)⟩
    · obtain ⟨g', t', cs', f', p', k1, k2, k3, k4, k5⟩ := laid_pick h5 e
      exact ⟨g', t', cs', f', p', k1, k2, k3, k4, fun y hy => List.mem_append.2 (.inr (k5 y hy))⟩
set_option maxRecDepth 100000 in
/-- One of them. -/
theorem laid_err {W : World} {laid : List (String × DataW Unit)} (h : laidMet Tryd.prog laid W) (k : Nat) (hk : k < 16) (hmem : (snm.getD k "", sdat k) ∈ laid) :
    ∃ a : Addr, W.cell? ⟨sg.getD k 0, 0, none⟩ = some (errAt a) ∧ W.cell? a = some (.string ⟨(stx.getD k []).toArray⟩) ∧ ∃ c t, W.heap[a.block]? = some (.cells c t (0, 0)) := by
  obtain ⟨ps, hv, _, hrows⟩ := h
  obtain ⟨g, t, cs, fuel, p, h1, h2, h3, h4, h5⟩ := laid_pick hv hmem
  obtain rfl := Option.some.inj ((snm_g k hk).symm.trans h1)
  obtain rfl := Option.some.inj ((snm_t k hk).symm.trans h2)
  obtain ⟨l⟩ := cs
  have ok : ∀ u v, l = [.iface u v] → Value.okWide Tryd.prog W .any 0 u v := fun u v e => by
    subst e
    exact (hrows (sg.getD k 0) 0 (h5 _ (by simp [MemPlace.row]))).2 u v (by simpa using World.var?_cell h1 h3 0)
  obtain ⟨a, s, hl, hc, hs, _, hp⟩ := errorString_of_trod Tryd.underlying36 row_err Tryd.underlying155 Tryd.underlying178 rfl rfl Tryd.underlying9 (by kernel_rfl) (by kernel_rfl) h4 ok
  subst hp
  replace hl : l = [.iface 155 (.pointer (some a))] := hl
  subst hl
  refine ⟨a, by simpa using World.var?_cell h1 h3 0, ?_, (hrows a.block a.off (h5 _ (by simp [MemPlace.row]))).1⟩
  rw [hc, ← hs]
set_option maxRecDepth 100000 in
/-- All of them. -/
theorem errs_of_laid {W : World} {laid : List (String × DataW Unit)} (h : laidMet Tryd.prog laid W) (hmem : ∀ k, k < 16 → (snm.getD k "", sdat k) ∈ laid) :
    ∃ ea : Nat → Addr, Sent W ea ∧ ∀ k, k < 16 → W.cell? (ea k) = some (.string ⟨(stx.getD k []).toArray⟩) := by
  obtain ⟨ea, hea⟩ := Classical.axiomOfChoice (r := fun (k : Nat) (a : Addr) => k < 16 → W.cell? ⟨sg.getD k 0, 0, none⟩ = some (errAt a) ∧ W.cell? a = some (.string ⟨(stx.getD k []).toArray⟩) ∧ ∃ c t, W.heap[a.block]? = some (.cells c t (0, 0)))
    (fun k => by
      by_cases hk : k < 16
      · obtain ⟨a, ha⟩ := laid_err h k hk (hmem k hk)
        exact ⟨a, fun _ => ha⟩
      · exact ⟨⟨0, 0, none⟩, fun h => absurd h hk⟩)
  refine ⟨ea, ⟨fun k hk => (hea k hk).1, fun k hk => World.block_lt_of_cell? W ⟨sg.getD k 0, 0, none⟩ (hea k hk).1, fun k hk => (hea k hk).2.2, fun k j hk hj e => ?_⟩, fun k hk => (hea k hk).2.1⟩
  have h1 := (hea k hk).2.1
  rw [e, (hea j hj).2.1] at h1
  simp only [Option.some.injEq, Value.string.injEq, ByteArray.mk.injEq] at h1
  exact (stx_inj j k hj hk (by simpa using h1)).symm
theorem gErrT : Tryd.prog.globalNamed "errors.errorType" = some 16 := by kernel_rfl
theorem rErrT : (Tryd.prog.cutTypes.find? (·.1 == "internal/reflectlite.rtype")).map (·.2) = some 140 := by kernel_rfl
theorem oErrT : ((List.range 190).filter fun t => Tryd.prog.rowNamed t [101, 114, 114, 111, 114]) = [36] := by kernel_rfl
theorem nErrT : Tryd.prog.types.size = 190 := by kernel_rfl
set_option maxRecDepth 100000 in
theorem errT_of_laid {W : World} (h : handlesMet Tryd.prog [("errors.errorType", Rows.laid_errors_errorType)] W) : ErrT W := by
  obtain ⟨name, u, ty, e1, e2, e3, e4, e5⟩ := h _ (List.mem_singleton.2 rfl)
  have en : name = [101, 114, 114, 111, 114] := (Option.some.inj e1).symm
  subst en
  obtain rfl := Option.some.inj (rErrT.symm.trans e2)
  have hm : ty ∈ (List.range 190).filter fun t => Tryd.prog.rowNamed t [101, 114, 114, 111, 114] := List.mem_filter.2 ⟨List.mem_range.2 (by rw [← nErrT]; exact e3), e4⟩
  rw [oErrT] at hm
  obtain rfl := List.mem_singleton.1 hm
  have hh : typeHandle Tryd.prog 36 = .pointer (some ⟨17, 36, none⟩) := by kernel_rfl
  rw [hh] at e5
  unfold ErrT
  simpa using World.var?_cell gErrT e5 0
end Go.Proofs.YtnnkomdkggepjaaDoor
namespace Go.Proofs.YtnnkomdkggepjaaDoor
open Go Go.RowKit
abbrev ftq (c : Int) : Value := .agg #[.int .i64 c, .int .i64 0, .int .i64 0, .int .i64 0, .slice none 0 0]
abbrev ftc (c : Int) : Array Value := #[.int .i64 c, .int .i64 0, .int .i64 0, .int .i64 0, .slice none 0 0]
set_option maxRecDepth 20000 in
theorem is_any (n : Int) (w : World) : Calls Tryd.prog 18 #[.int .i64 n] w fun e w' => e = .returned (ftq n) ∧ Ext w w' := by
  go_enter Tryd.func18, Tryd.ntmps18
  go_wp2_with fail
  refine bodyPost_ret (v := ftq n) ?_ rfl ⟨rfl, by go_grown⟩
  simp [results, Tryd.results18, go_sem]
theorem okB_no {d : Dd} (h : ¬ d.Ok) : okB d = false := by
  cases q : okB d with
  | false => rfl
  | true => exact absurd (okB_ok.1 q) h
/-- Where the error of what may not be stands. -/
structure Arg (w : World) (aA : Addr) : Prop where
  arg : w.cell? ⟨0, 0, none⟩ = some (errAt aA)
  lt : 0 < w.heap.size
theorem Arg.ext {w w' : World} {aA : Addr} (h : Arg w aA) (hx : Ext w w') : Arg w' aA := ⟨(hx.cell (p := ⟨_, 0, none⟩) h.lt).trans h.arg, Nat.lt_of_lt_of_le h.lt hx.size⟩
set_option maxHeartbeats 1000000 in
set_option maxRecDepth 20000 in
theorem least_no (d : Dd) (v : Value) (aA : Addr) (w : World) (hd : ¬ d.Ok) (h : Dns w v d) (hA : Arg w aA) :
    Calls Tryd.prog 7 #[v] w fun e w' => e = .returned (.tuple #[.agg #[nilS, nilS], errAt aA]) ∧ Ext w w' := by
  have hb := okB_no hd
  obtain ⟨a, b, rfl, h1, h2⟩ := h
  have h0 : Dns w (.agg #[a, b]) d := ⟨a, b, rfl, h1, h2⟩
  obtain ⟨p, cap, rfl, _⟩ := h1.shape
  obtain ⟨p2, cap2, rfl, _⟩ := h2.shape
  have hE : Ext w ((w.alloc (.cells #[.slice p d.nx.length cap, .slice p2 d.lb.length cap2] 26)).alloc (.cells #[nilS, nilS] 26)) := by go_grown
  have HE := Lib.hid hE
  have HBX := Lib.hid ((Blk.new w #[.slice p d.nx.length cap, .slice p2 d.lb.length cap2] 26).alloc (.cells #[nilS, nilS] 26))
  have HR := Lib.hid (Blk.new (w.alloc (.cells #[.slice p d.nx.length cap, .slice p2 d.lb.length cap2] 26)) #[nilS, nilS] 26)
  rw [show (w.alloc (.cells #[.slice p d.nx.length cap, .slice p2 d.lb.length cap2] 26)).heap.size = w.heap.size + 1 by simp] at HR
  have HA := Lib.hid (hA.ext hE)
  have C1 := checkd_any d _ _ (h0.ext hE)
  rw [hb] at C1
  have C1 := Lib.hid C1
  have hq0 := HBX.out.cell 0
  have hq1 := HBX.out.cell 1
  clear h0 h1 h2 hd hb hE hA
  go_enter Tryd.func7, Tryd.ntmps7
  go_wp2_with fail
  refine C1.out.mono ?_; rintro e w1 ⟨rfl, E1⟩
  have BR := HR.out.ext E1
  have za := (HA.out.ext E1).arg
  have p0 : w1.cell? ⟨w.heap.size + 1, 0, none⟩ = some (.slice none 0 0) := BR.cell 0
  have p1 : w1.cell? ⟨w.heap.size + 1, 1, none⟩ = some (.slice none 0 0) := BR.cell 1
  have f0 := BR.free 0
  have f1 := BR.free 1
  have s0 : w1.setCell ⟨w.heap.size + 1, 0, none⟩ (.slice none 0 0) = w1 := set_same BR rfl
  have s1 : w1.setCell ⟨w.heap.size + 1, 1, none⟩ (.slice none 0 0) = w1 := set_same BR rfl
  have d0 : w1.drew.cell? ⟨w.heap.size + 1, 0, none⟩ = some (.slice none 0 0) := (BR.ext (drewx w1)).cell 0
  have d1 : w1.drew.cell? ⟨w.heap.size + 1, 1, none⟩ = some (.slice none 0 0) := (BR.ext (drewx w1)).cell 1
  have E9 := Lib.hid (bel_call HE.out E1)
  have hE9 : Ext w w1.drew := bel_call E9.out (drewx w1)
  have E10 := Lib.hid hE9
  clear hq0 hq1 HE C1 E1 BR HBX HR HA hE9
  go_upto_region 2 with fail
  go_region
  go_wp2_with fail
  refine bodyPost_ret (v := .tuple #[.agg #[nilS, nilS], errAt aA]) ?_ rfl ⟨rfl, E10.out⟩
  simp [results, Tryd.results7, go_sem, d0, d1]
set_option maxHeartbeats 1000000 in
set_option maxRecDepth 20000 in
theorem classes_no (d : Dd) (v : Value) (aA : Addr) (w : World) (hd : ¬ d.Ok) (h : Dns w v d) (hA : Arg w aA) :
    Calls Tryd.prog 8 #[v] w fun e w' => e = .returned (.tuple #[nilS, errAt aA]) ∧ Ext w w' := by
  have hb := okB_no hd
  obtain ⟨a, b, rfl, h1, h2⟩ := h
  have h0 : Dns w (.agg #[a, b]) d := ⟨a, b, rfl, h1, h2⟩
  obtain ⟨p, cap, rfl, _⟩ := h1.shape
  obtain ⟨p2, cap2, rfl, _⟩ := h2.shape
  have hE := ext_box w #[.slice p d.nx.length cap, .slice p2 d.lb.length cap2] 26
  have HE := Lib.hid hE
  have HBX := Lib.hid (Blk.new w #[.slice p d.nx.length cap, .slice p2 d.lb.length cap2] 26)
  have HA := Lib.hid (hA.ext hE)
  have C1 := checkd_any d _ _ (h0.ext hE)
  rw [hb] at C1
  have C1 := Lib.hid C1
  have hq0 := HBX.out.cell 0
  have hq1 := HBX.out.cell 1
  clear h0 h1 h2 hd hb hE hA
  go_enter Tryd.func8, Tryd.ntmps8
  go_wp2_with fail
  refine C1.out.mono ?_; rintro e w1 ⟨rfl, E1⟩
  have za := (HA.out.ext E1).arg
  have E9 := Lib.hid (bel_call HE.out E1)
  have hE9 : Ext w w1.drew := bel_call E9.out (drewx w1)
  have E10 := Lib.hid hE9
  clear hq0 hq1 HE C1 E1 HBX HA hE9
  go_upto_region 2 with fail
  go_region
  go_wp2_with fail
  refine bodyPost_ret (v := .tuple #[nilS, errAt aA]) (by simp [results, Tryd.results8, go_sem]) rfl ⟨rfl, E10.out⟩
set_option maxHeartbeats 1000000 in
set_option maxRecDepth 20000 in
theorem ler_no (d : Dd) (v : Value) (w : World) (hd : ¬ d.Ok) (h : Dns w v d) :
    Calls Tryd.prog 5 #[v] w fun e w' => e = .returned (.tuple #[.agg #[nilS, nilS], ftq 15]) ∧ Ext w w' := by
  have hb := okB_no hd
  obtain ⟨a, b, rfl, h1, h2⟩ := h
  have h0 : Dns w (.agg #[a, b]) d := ⟨a, b, rfl, h1, h2⟩
  obtain ⟨p, cap, rfl, _⟩ := h1.shape
  obtain ⟨p2, cap2, rfl, _⟩ := h2.shape
  obtain ⟨n, hn⟩ : ∃ n, d.nx.length = n := ⟨_, rfl⟩
  obtain ⟨n2, hl⟩ : ∃ n, d.lb.length = n := ⟨_, rfl⟩
  rw [hn, hl] at h0
  rw [hn, hl]
  obtain ⟨wA, hwA⟩ : ∃ wA, w.alloc (.cells #[.slice p n cap, .slice p2 n2 cap2] 26) = wA := ⟨_, rfl⟩
  obtain ⟨wB, hwB⟩ : ∃ wB, wA.alloc (.cells #[nilS, nilS] 26) = wB := ⟨_, rfl⟩
  have hsA : wA.heap.size = w.heap.size + 1 := by rw [← hwA]; exact Array.size_push _
  have hsB : wB.heap.size = w.heap.size + 1 + 1 := by rw [← hwB, ← hsA]; exact Array.size_push _
  have xA : Ext w wA := by rw [← hwA]; exact ext_box w _ _
  have xB : Ext wA wB := by rw [← hwB]; exact ext_box wA _ _
  have xC := ext_box wB nofc 30
  have HEB := Lib.hid (bel_call (bel_call xA xB) xC)
  have HBX := Lib.hid (((by rw [← hwA]; exact Blk.new w #[.slice p n cap, .slice p2 n2 cap2] 26 : Blk wA w.heap.size #[.slice p n cap, .slice p2 n2 cap2] 26).ext xB).ext xC)
  have HBR := Lib.hid ((by rw [← hsA, ← hwB]; exact Blk.new wA #[nilS, nilS] 26 : Blk wB (w.heap.size + 1) #[nilS, nilS] 26).ext xC)
  have HBF := Lib.hid (Blk.new wB nofc 30)
  rw [hsB] at HBF
  have HM0 := may_any d _ _ (h0.ext HEB.out)
  rw [hb] at HM0
  have HM := Lib.hid HM0
  clear HM0
  clear h1 h2 h0 hd hn hl hb xA xB xC
  go_enter Tryd.func5, Tryd.ntmps5
  go_upto_region 1 with fail
  show Code.wp _ _ _ _ (wB.alloc (.cells nofc 30))
  generalize wB.alloc (.cells nofc 30) = w0 at *
  clear hwA hwB hsA hsB
  have z0 := HBX.out.cell 0
  have z1 := HBX.out.cell 1
  go_wp2_with fail
  refine HM.out.mono ?_; rintro e w1 ⟨rfl, E1⟩
  have hE1 := Lib.hid E1
  clear HM E1 z0 z1
  go_wp2_with fail
  refine (is_any 15 w1).mono ?_; rintro e w2 ⟨rfl, E2⟩
  have hE2 := Lib.hid (bel_call hE1.out E2)
  have BR := HBR.out.ext hE2.out
  have BF := HBF.out.ext hE2.out
  have p0 : w2.cell? ⟨w.heap.size + 1, 0, none⟩ = some (.slice none 0 0) := BR.cell 0
  have p1 : w2.cell? ⟨w.heap.size + 1, 1, none⟩ = some (.slice none 0 0) := BR.cell 1
  have f0 := BR.free 0
  have f1 := BR.free 1
  have s0 : w2.setCell ⟨w.heap.size + 1, 0, none⟩ (.slice none 0 0) = w2 := set_same BR rfl
  have s1 : w2.setCell ⟨w.heap.size + 1, 1, none⟩ (.slice none 0 0) = w2 := set_same BR rfl
  obtain ⟨q0, q1, q2, q3, q4⟩ := BF.cells5
  have g0 := BF.free 0
  have g1 := BF.free 1
  have g2 := BF.free 2
  have g3 := BF.free 3
  have g4 := BF.free 4
  have EX := Lib.hid (bel_call HEB.out hE2.out)
  clear E2 hE1 hE2
  go_wp2_with fail
  have kF5 := ((((BF.set 0 (.int .i64 15)).set 1 (.int .i64 0)).set 2 (.int .i64 0)).set 3 (.int .i64 0)).set 4 (.slice none 0 0)
  obtain ⟨q0, q1, q2, q3, q4⟩ := kF5.cells5
  have hne : ∀ k, (⟨w.heap.size + 1 + 1, k, none⟩ : Addr).block ≠ w.heap.size + 1 := fun k => by show w.heap.size + 1 + 1 ≠ _; omega
  have kR := ((((BR.set_other (hne 0) (.int .i64 15)).set_other (hne 1) (.int .i64 0)).set_other (hne 2) (.int .i64 0)).set_other (hne 3) (.int .i64 0)).set_other (hne 4) (.slice none 0 0)
  have r0 := kR.cell 0
  have r1 := kR.cell 1
  have hwx := EX.out
  refine bodyPost_ret (v := .tuple #[.agg #[nilS, nilS], ftq 15]) ?_ rfl ⟨rfl, Below.trans (B := w.heap.size) hwx (by go_grown)⟩
  simp [results, Tryd.results5, go_sem, q0, q1, q2, q3, q4, r0, r1]
set_option maxHeartbeats 1000000 in
set_option maxRecDepth 20000 in
theorem clr_no (d : Dd) (v : Value) (w : World) (hd : ¬ d.Ok) (h : Dns w v d) :
    Calls Tryd.prog 6 #[v] w fun e w' => e = .returned (.tuple #[nilS, ftq 15]) ∧ Ext w w' := by
  have hb := okB_no hd
  obtain ⟨a, b, rfl, h1, h2⟩ := h
  have h0 : Dns w (.agg #[a, b]) d := ⟨a, b, rfl, h1, h2⟩
  obtain ⟨p, cap, rfl, _⟩ := h1.shape
  obtain ⟨p2, cap2, rfl, _⟩ := h2.shape
  obtain ⟨n, hn⟩ : ∃ n, d.nx.length = n := ⟨_, rfl⟩
  obtain ⟨n2, hl⟩ : ∃ n, d.lb.length = n := ⟨_, rfl⟩
  rw [hn, hl] at h0
  rw [hn, hl]
  have HEB := Lib.hid (bel_call (ext_box w #[.slice p n cap, .slice p2 n2 cap2] 26) (show Ext _ ((w.alloc (.cells #[.slice p n cap, .slice p2 n2 cap2] 26)).alloc (.cells nofc 30)) from by go_grown))
  have HBX := Lib.hid ((Blk.new w #[.slice p n cap, .slice p2 n2 cap2] 26).alloc (.cells nofc 30))
  have HBF := Lib.hid (Blk.new (w.alloc (.cells #[.slice p n cap, .slice p2 n2 cap2] 26)) nofc 30)
  have HM := may_any d _ _ (h0.ext HEB.out)
  rw [hb] at HM
  have HM := Lib.hid HM
  clear h1 h2 h0 hd hn hl hb
  have hsz : (w.alloc (.cells #[.slice p n cap, .slice p2 n2 cap2] 26)).heap.size = w.heap.size + 1 := Array.size_push _
  rw [hsz] at HBF
  go_enter Tryd.func6, Tryd.ntmps6
  go_upto_region 1 with fail
  show Code.wp _ _ _ _ ((w.alloc (.cells #[.slice p n cap, .slice p2 n2 cap2] 26)).alloc (.cells nofc 30))
  generalize (w.alloc (.cells #[.slice p n cap, .slice p2 n2 cap2] 26)).alloc (.cells nofc 30) = w0 at *
  have z0 := HBX.out.cell 0
  have z1 := HBX.out.cell 1
  go_wp2_with fail
  refine HM.out.mono ?_; rintro e w1 ⟨rfl, E1⟩
  have hE1 := Lib.hid E1
  clear HM E1 z0 z1
  go_wp2_with fail
  refine (is_any 15 w1).mono ?_; rintro e w2 ⟨rfl, E2⟩
  have hE2 := Lib.hid (bel_call hE1.out E2)
  have BF := HBF.out.ext hE2.out
  obtain ⟨q0, q1, q2, q3, q4⟩ := BF.cells5
  have g0 := BF.free 0
  have g1 := BF.free 1
  have g2 := BF.free 2
  have g3 := BF.free 3
  have g4 := BF.free 4
  have EX := Lib.hid (bel_call HEB.out hE2.out)
  clear E2 hE1 hE2
  go_wp2_with fail
  have kF5 := ((((BF.set 0 (.int .i64 15)).set 1 (.int .i64 0)).set 2 (.int .i64 0)).set 3 (.int .i64 0)).set 4 (.slice none 0 0)
  obtain ⟨q0, q1, q2, q3, q4⟩ := kF5.cells5
  have hwx := EX.out
  refine bodyPost_ret (v := .tuple #[nilS, ftq 15]) ?_ rfl ⟨rfl, Below.trans (B := w.heap.size) hwx (by go_grown)⟩
  simp [results, Tryd.results6, go_sem, q0, q1, q2, q3, q4]
/-- What both tell of an automaton. -/
inductive Told (aA : Addr) (d m : Dd) : Int → Value → Prop where
  | ok (h : d.Ok) (hm : Canon m (d.beh 0)) : Told aA d m 0 .nilIface
  | no (h : ¬ d.Ok) (hm : m = ⟨[], []⟩) : Told aA d m 15 (errAt aA)
/-- Its classes. -/
def Clss (d : Dd) (c : List Int) : Prop := (d.Ok ∧ ClsOk d.nx.length (fun i k => Beq (d.beh i) (d.beh k)) c) ∨ (¬ d.Ok ∧ c = [])
theorem Clss.uniq {d : Dd} {c c' : List Int} (h : Clss d c) (h' : Clss d c') : c = c' := by
  rcases h with ⟨h1, h2⟩ | ⟨h1, h2⟩ <;> rcases h' with ⟨k1, k2⟩ | ⟨k1, k2⟩
  · exact h2.uniq k2
  · exact absurd h1 k1
  · exact absurd k1 h1
  · rw [h2, k2]
theorem dns_nil (w : World) : Dns w (.agg #[nilS, nilS]) ⟨[], []⟩ := ⟨nilS, nilS, rfl, ⟨[], rfl, Slc.nil w, fun i hi => by cases hi⟩, Slc.nil w, fun x hx => by cases hx⟩
theorem ownd_nil (w : World) (B : Nat) : OwnD w B nilS nilS [] ⟨[], []⟩ := ⟨own_nil _ _ _ _, own_nil _ _ _ _, fun j hj => absurd hj (by simp), fun j hj => absurd hj (by simp), fun j k hj => absurd hj (by simp)⟩
theorem Canon.small {m : Dd} {f : List Nat → Int} (h : Canon m f) : ∀ L ∈ m.nx, L.length = 256 := fun L hL => by
  obtain ⟨j, hj, rfl⟩ := List.getElem_of_mem hL
  have := h.ok.row j hj
  rwa [getD_get hj] at this
theorem nc_le {c : List Int} (h : NC c) : ∀ (n i : Nat) (hi : i < c.length), i ≤ n → c[i] ≤ (i : Int)
  | n, i, hi, hn => by
    rcases Int.lt_or_le 0 c[i] with q | q
    · have h1 := (h i hi).2 (c[i] - 1) (by omega) (by omega)
      obtain ⟨j, hj, e⟩ := List.getElem_of_mem h1
      rw [List.length_take] at hj
      rw [List.getElem_take] at e
      match n, hn with
      | 0, hn => omega
      | n + 1, hn =>
        have := nc_le h n j (by omega) (by omega)
        omega
    · omega
theorem nc_bound {c : List Int} (h : NC c) : ∀ x ∈ c, 0 ≤ x ∧ x ≤ c.length := fun x hx => by
  obtain ⟨i, hi, rfl⟩ := List.getElem_of_mem hx
  have := (h i hi).1
  have := nc_le h i i hi (Nat.le_refl _)
  omega
theorem ints_cls {w : World} {B n : Nat} {E : Nat → Nat → Prop} {v : Value} {c : List Int} (ho : w.ownsRow B 3 1 v c.length (c.map iv)) (hc : ClsOk n E c) (hn : n ≤ 600) : Ints w v c :=
  ⟨Slc.of_own ho (by rw [hc.len]; omega), fun x hx => by have := nc_bound hc.nc x hx; have := hc.len; omega⟩
theorem ints_nil (w : World) : Ints w nilS [] := ⟨Slc.nil w, fun x hx => by cases hx⟩
/-- The document's own answers. -/
theorem ler_any (aA : Addr) (d : Dd) (v : Value) (w : World) (h : Dns w v d) :
    Calls Tryd.prog 5 #[v] w fun e w' => ∃ m vN vL vs cd er, e = .returned (.tuple #[.agg #[vN, vL], ftq cd]) ∧ Told aA d m cd er ∧ OwnD w' w.heap.size vN vL vs m ∧ Dns w' (.agg #[vN, vL]) m ∧ Ext w w' := by
  by_cases hd : d.Ok
  · refine (ler_ok d v w hd h).mono ?_
    rintro e w' ⟨m, vN, vL, vs, rfl, hm, ho, hx⟩
    exact ⟨m, vN, vL, vs, 0, .nilIface, rfl, .ok hd hm, ho, ho.dns hm.ok, hx⟩
  · refine (ler_no d v w hd h).mono ?_
    rintro e w' ⟨rfl, hx⟩
    exact ⟨_, _, _, _, 15, errAt aA, rfl, .no hd rfl, ownd_nil w' _, dns_nil w', hx⟩
theorem clr_any {aA : Addr} {d m : Dd} {cd : Int} {er v : Value} {w : World} (h : Dns w v d) (ht : Told aA d m cd er) :
    Calls Tryd.prog 6 #[v] w fun e w' => ∃ v' c, e = .returned (.tuple #[v', ftq cd]) ∧ Clss d c ∧ Ints w' v' c ∧ Ext w w' := by
  cases ht with
  | ok hd _ =>
    refine (clr_ok d v w hd h).mono ?_
    rintro e w' ⟨v', c, rfl, ho, hc, hx⟩
    exact ⟨v', c, rfl, .inl ⟨hd, hc⟩, ints_cls ho hc hd.le, hx⟩
  | no hd _ =>
    refine (clr_no d v w hd h).mono ?_
    rintro e w' ⟨rfl, hx⟩
    exact ⟨_, [], rfl, .inr ⟨hd, rfl⟩, ints_nil w', hx⟩
/-- The program's. -/
theorem mle_any {aA : Addr} {d m : Dd} {cd : Int} {er v : Value} {w : World} (h : Dns w v d) (ht : Told aA d m cd er) (hA : Arg w aA) :
    Calls Tryd.prog 7 #[v] w fun e w' => ∃ vN vL vs, e = .returned (.tuple #[.agg #[vN, vL], er]) ∧ OwnD w' w.heap.size vN vL vs m ∧ Dns w' (.agg #[vN, vL]) m ∧ (∀ L ∈ m.nx, L.length ≤ 256) ∧ m.nx.length ≤ 600 ∧ m.lb.length ≤ 600 ∧ Ext w w' := by
  cases ht with
  | ok hd hm =>
    refine (least_ok d v w hd h).mono ?_
    rintro e w' ⟨m', vN, vL, vs, rfl, hm', ho, hx⟩
    obtain rfl := hm'.uniq hm (Beq.refl _)
    exact ⟨vN, vL, vs, rfl, ho, ho.dns hm.ok, fun L hL => Nat.le_of_eq (hm.small L hL), hm.ok.le, by rw [hm.ok.lbl]; exact hm.ok.le, hx⟩
  | no hd hm =>
    subst hm
    refine (least_no d v aA w hd h hA).mono ?_
    rintro e w' ⟨rfl, hx⟩
    exact ⟨_, _, _, rfl, ownd_nil w' _, dns_nil w', (fun L hL => by cases hL), by simp, by simp, hx⟩
theorem mcl_any {aA : Addr} {d m : Dd} {c : List Int} {cd : Int} {er v : Value} {w : World} (h : Dns w v d) (ht : Told aA d m cd er) (hc : Clss d c) (hA : Arg w aA) :
    Calls Tryd.prog 8 #[v] w fun e w' => ∃ v', e = .returned (.tuple #[v', er]) ∧ w'.ownsRow w.heap.size 3 1 v' c.length (c.map iv) ∧ Ints w' v' c ∧ c.length ≤ 600 ∧ Ext w w' := by
  cases ht with
  | ok hd hm =>
    refine (classes_ok d v w hd h).mono ?_
    rintro e w' ⟨v', c', rfl, ho, hc', _, hx⟩
    obtain rfl := hc.uniq (.inl ⟨hd, hc'⟩)
    exact ⟨v', rfl, ho, ints_cls ho hc' hd.le, by rw [hc'.len]; exact hd.le, hx⟩
  | no hd hm =>
    obtain rfl := hc.uniq (.inr ⟨hd, rfl⟩)
    refine (classes_no d v aA w hd h hA).mono ?_
    rintro e w' ⟨rfl, hx⟩
    exact ⟨_, rfl, own_nil _ _ _ _, ints_nil w', by simp, hx⟩
end Go.Proofs.YtnnkomdkggepjaaDoor
namespace Go.Proofs.YtnnkomdkggepjaaDoor
open Go Go.RowKit
theorem Fam.lt {w : World} {B : Nat} {L : List (Value × List Int)} (h : Fam w B L) {p : Value × List Int} (hp : p ∈ L) {g : Nat} (hg : p.1.ownBlock = some g) : B ≤ g ∧ g < w.heap.size := World.ownsRow.lt (h.en p hp) g hg
/-- The first one grows by several. -/
theorem Fam.more {w w' w2 : World} {B : Nat} {L : List (Value × List Int)} {v v' : Value} {xs ys : List Int} (h : Fam w B ((v, xs) :: L)) (hx : Ext w w2) (hg : w2.grownBy w' v.ownBlock) (ho : w'.ownsRow B 3 1 v' (xs.length + ys.length) (xs.map iv ++ ys.map iv))
    (hl : v'.ownBlock = v.ownBlock ∨ v'.ownBlock = some w2.heap.size) : Fam w' B ((v', xs ++ ys) :: L) := by
  obtain ⟨hp, hL⟩ := List.pairwise_cons.1 h.dj
  refine ⟨fun p q => ?_, List.pairwise_cons.2 ⟨fun p q => ?_, hL⟩⟩
  · rcases List.mem_cons.1 q with rfl | q
    · simpa using ho
    · refine (own_ex (h.en p (List.mem_cons_of_mem _ q)) hx).kept hg ?_
      cases hq : p.1.ownBlock with
      | none => exact .inl rfl
      | some g => exact .inr (fun e => hp p q g e.symm hq)
  · rcases hl with e | e
    · intro g a b; rw [e] at a; exact hp p q g a b
    · intro g a b
      rw [e] at a
      have := (World.ownsRow.lt (h.en p (List.mem_cons_of_mem _ q)) g b).2
      have h2 := hx.size
      have := Option.some.inj a
      omega
/-- A number of the first one is written over. -/
theorem Fam.stored {w : World} {B g n c k : Nat} {y : Int} {xs : List Int} {L : List (Value × List Int)} (h : Fam w B ((.slice (some ⟨g, 0, none⟩) n c, xs) :: L)) (hn : xs.length = n) :
    Fam (w.setCell ⟨g, k, none⟩ (iv y)) B ((.slice (some ⟨g, 0, none⟩) n c, xs.set k y) :: L) := by
  obtain ⟨hp, hL⟩ := List.pairwise_cons.1 h.dj
  refine ⟨fun p q => ?_, List.pairwise_cons.2 ⟨hp, hL⟩⟩
  rcases List.mem_cons.1 q with rfl | q
  · have h1 := h.en _ (List.mem_cons_self ..)
    have h1 : w.ownsRow B 3 1 (.slice (some ⟨g, 0, none⟩) n c) n (xs.map iv) := by rw [← hn] at h1 ⊢; exact h1
    have := (h1.stored k (iv y)).1
    rw [← List.map_set] at this
    simpa [hn] using this
  · exact own_set (h.en p (List.mem_cons_of_mem _ q)) (fun e => hp p q g rfl e)
theorem iv_two (x y : Int) : ∀ u ∈ [iv x, iv y], u.oneCell' = true := by
  intro u hu
  rcases List.mem_cons.1 hu with rfl | hu
  · rfl
  · rw [List.mem_singleton.1 hu]; rfl
theorem iv_three (x y z : Int) : ∀ u ∈ [iv x, iv y, iv z], u.oneCell' = true := by
  intro u hu
  rcases List.mem_cons.1 hu with rfl | hu
  · rfl
  · exact iv_two y z u hu
theorem set_rep {M : List Int} {k : Nat} {y : Int} (h : k < M.length) : (List.replicate k y ++ M.drop k).set k y = List.replicate (k + 1) y ++ M.drop (k + 1) := by
  rw [List.set_append_right _ _ (by simp), List.length_replicate, Nat.sub_self, List.drop_eq_getElem_cons h, List.set_cons_zero, List.replicate_succ', List.append_assoc]
  rfl
set_option maxHeartbeats 2000000 in
set_option maxRecDepth 20000 in
theorem overi_any (n B : Nat) (xs : List Value) (v : Value) (w : World) (h : w.ownsRow B 3 1 v n xs) (hn : n ≤ 1000000) (hB : B ≤ w.heap.size) :
    Calls Tryd.prog 13 #[v] w fun e w' => e = .returned (.tuple #[]) ∧ Fr (fun g => v.ownBlock = some g) w w' := by
  obtain ⟨i0, hi, hz0, hz1, hz2⟩ := info_parts info_int
  obtain ⟨a, c, rfl⟩ := own_shp h
  have H := Lib.hid h
  have HB := Lib.hid hB
  clear h
  go_enter Tryd.func13, Tryd.ntmps13
  go_upto_region 1 with (at_builtin; refine wpList_append_own_at _ rfl (.tmp 3) (.tmp 4) 24 rfl B 3 i0 (.int .i64 0) 1 8 Tryd.underlying24 hi hz0 hz1 hz2 rfl (by decide) _ _ _ rfl (H.out.alloc _) ⟨_, 0, none⟩ 3 3 [iv 1, iv 2, iv 3] rfl rfl (cell_nwb _ [iv 1, iv 2, iv 3] _ _ (by simp)) (iv_three 1 2 3) (by unfold maxLen; omega) (by omega) (by simp; omega) ?_; intro v5 w5 hown5 hgrow5 hnil5 hloc5)
  have HF := Lib.hid ((Fr.of_ext (S := fun g => (Value.slice a n c).ownBlock = some g) (ext_box w #[iv 1, iv 2, iv 3] 3)).trans (Fr.of_grown hgrow5 (fun g hg => hg)) (fun _ _ q => q))
  obtain ⟨g, c5, rfl, hc5, hg5, hgl, hcm⟩ := own_some hown5 (by omega)
  have HL := Lib.hid (show (Value.slice a n c).ownBlock = some g ∨ w.heap.size ≤ g by
    rcases hloc5 with e | e
    · exact .inl e.symm
    · right; have e : some g = some (w.alloc _).heap.size := e
      have := Option.some.inj e
      simp at this; omega)
  have HO := Lib.hid (show ∃ ys, w5.ownsRow B 3 1 (.slice (some ⟨g, 0, none⟩) (n + 3) c5) (n + 3) ys from ⟨_, hown5⟩)
  clear hown5 hgrow5 hnil5 hloc5 hB hg5 hgl
  go_wp2_with fail
  go_loopw [2] (fun s2 wr => ∃ k : Nat, k ≤ n + 3 ∧ s2 = .int .i64 k ∧ Hid (∃ ys, wr.ownsRow B 3 1 (.slice (some ⟨g, 0, none⟩) (n + 3) c5) (n + 3) ys) ∧ Hid (Fr (fun g => (Value.slice a n c).ownBlock = some g) w wr)) (fun s2 _ => n + 3 - (intOf s2).toNat)
  case atStart => exact ⟨0, Nat.zero_le _, rfl, HO, HF⟩
  case round =>
    clear HO HF
    obtain ⟨k, hk, rfl, hO, hF⟩ := hrel
    by_cases hkn : k < n + 3
    · obtain ⟨ys, hys⟩ := hO.out
      have y1 : wr.cell? ⟨g, k, none⟩ = some (ys[k]'(by have := hys.1; omega)) := by
        rw [hys.cellAt k (by omega)]; exact List.getElem?_eq_getElem _
      have y2 := hys.frozenAt k
      have O9 := Lib.hid (show ∃ ys, (wr.setCell ⟨g, k, none⟩ (iv (-99))).ownsRow B 3 1 (.slice (some ⟨g, 0, none⟩) (n + 3) c5) (n + 3) ys from ⟨_, (hys.stored k (iv (-99))).1⟩)
      have F9 := Lib.hid (hF.out.set (b := g) (i := k) HL.out (iv (-99)))
      generalize ys[k]'(by have := hys.1; omega) = yv at y1
      clear hO hF hys
      go_wp2_with fail
      go_roundw
      case rel => exact ⟨k + 1, by omega, by go_num, O9, F9⟩
      case measure => simp [intOf]; omega
    · obtain rfl : k = n + 3 := by omega
      go_wp2_with fail
      first | go_end0 | refine bodyPost_ret (results_none rfl _ _ _) rfl ?_
      exact ⟨rfl, hF.out⟩
end Go.Proofs.YtnnkomdkggepjaaDoor
namespace Go.Proofs.YtnnkomdkggepjaaDoor
open Go Go.RowKit
/-- Where rows lie. -/
def Inr (rs : List (Value × List Int)) (g : Nat) : Prop := ∃ p ∈ rs, p.1.ownBlock = some g
/-- What the first loop keeps. -/
structure Ov1 (w0 w : World) (B n i : Nat) (vN vA : Value) (rs ts : List (Value × List Int)) : Prop where
  fam : Fam w B (ts ++ rs.drop i)
  rn : w.ownsRow B 24 1 vN n (rs.map (·.1))
  al : w.ownsRow w0.heap.size 24 1 vA i (ts.map (·.1))
  val : ∀ j (h : j < ts.length), ∃ m : Nat, 0 < m ∧ m ≤ 1000002 ∧ ts[j].2 = List.replicate m (-1000 - (j : Int))
  fr : Fr (Inr rs) w0 w
/-- What the loop over a row keeps. -/
structure Ov2 (w0 w : World) (B n i m k : Nat) (vN vA v5 : Value) (rs ts : List (Value × List Int)) (M : List Int) : Prop where
  fam : Fam w B ((v5, List.replicate k (-1000 - (i : Int)) ++ M.drop k) :: (ts ++ rs.drop (i + 1)))
  rn : w.ownsRow B 24 1 vN n (rs.map (·.1))
  al : w.ownsRow w0.heap.size 24 1 vA i (ts.map (·.1))
  fr : Fr (Inr rs) w0 w
theorem Ov2.set {w0 w : World} {B n i m k g c : Nat} {vN vA : Value} {rs ts : List (Value × List Int)} {M : List Int} (h : Ov2 w0 w B n i m k vN vA (.slice (some ⟨g, 0, none⟩) m c) rs ts M) (hk : k < M.length) (hm : M.length = m) (hg : Inr rs g ∨ w0.heap.size ≤ g) :
    Ov2 w0 (w.setCell ⟨g, k, none⟩ (iv (-1000 - (i : Int)))) B n i m (k + 1) vN vA (.slice (some ⟨g, 0, none⟩) m c) rs ts M := by
  have hl : (List.replicate k (-1000 - (i : Int)) ++ M.drop k).length = m := by simp; omega
  have h5 := h.fam.en _ (List.mem_cons_self ..)
  have hv : ∀ g', (Value.slice (some ⟨g, 0, none⟩) m c).ownBlock = some g' ↔ g = g' := fun g' => by show some g = some g' ↔ _; simp
  refine ⟨?_, own_set h.rn (fun q => own_ne_own h5 h.rn (by decide) g q ((hv g).2 rfl)), own_set h.al (fun q => own_ne_own h5 h.al (by decide) g q ((hv g).2 rfl)), h.fr.set hg _⟩
  have := Fam.stored (k := k) (y := -1000 - (i : Int)) h.fam hl
  rw [set_rep hk] at this
  exact this
theorem own_two {w : World} {B n : Nat} {v : Value} {L : List Int} (h : w.ownsRow B 3 1 v n (L.map iv)) : L.length = n := by
  have := h.1; simpa using this
set_option maxHeartbeats 4000000 in
set_option maxRecDepth 20000 in
theorem overr_any (B n : Nat) (rs : List (Value × List Int)) (v : Value) (w : World) (h : w.ownsRow B 24 1 v n (rs.map (·.1))) (hF : Fam w B rs) (hn : n ≤ 1000000) (hB : B ≤ w.heap.size) (hl : ∀ p ∈ rs, p.2.length ≤ 1000000) :
    Calls Tryd.prog 12 #[v] w fun e w' => e = .returned (.bool true) ∧ Fr (Inr rs) w w' := by
  obtain ⟨i0, hi0, hz0, hz1, hz2⟩ := info_parts info_int
  obtain ⟨j0, hj0, hy0, hy1, hy2⟩ := info_parts info_sli
  have hrl : rs.length = n := by have := h.1; simpa using this
  obtain ⟨aN, cN, rfl⟩ := own_shp h
  have HVN := Lib.hid (fun g (hg : (Value.slice aN n cN).ownBlock = some g) => (World.ownsRow.lt h g hg).2)
  have H0 := Lib.hid (show Ov1 w w B n 0 (.slice aN n cN) nilS rs [] from ⟨hF, h, own_nil _ _ _ _, fun j hj => absurd hj (by simp), Fr.refl _ _⟩)
  have HL := Lib.hid hl
  have HRL := Lib.hid hrl
  clear h hF hl hrl
  go_enter Tryd.func12, Tryd.ntmps12
  go_wp2_with fail
  go_loopw [3, 4] (fun s3 s4 wr => ∃ i : Nat, i ≤ n ∧ s4 = .int .i64 i ∧ ∃ ts, Hid (Ov1 w wr B n i (.slice aN n cN) s3 rs ts)) (fun _ s4 _ => n - (intOf s4).toNat)
  case atStart => exact ⟨0, Nat.zero_le _, rfl, [], H0⟩
  case round =>
    clear H0
    obtain ⟨i, hi, rfl, ts, hO⟩ := hrel
    by_cases hin : i < n
    · have hir : i < rs.length := by rw [HRL.out]; exact hin
      obtain ⟨gN, cN2, eN, _, _, _, _⟩ := own_some hO.out.rn (by omega)
      simp only [Value.slice.injEq, true_and] at eN
      obtain ⟨rfl, rfl⟩ := eN
      obtain ⟨vi, Li, hri⟩ : ∃ vi Li, rs[i] = (vi, Li) := ⟨_, _, rfl⟩
      have hmem : (vi, Li) ∈ rs := by rw [← hri]; exact List.getElem_mem _
      have hLi : Li.length ≤ 1000000 := HL.out _ hmem
      have F1 : Fam wr B ((vi, Li) :: (ts ++ rs.drop (i + 1))) := by
        refine Fam.perm hO.out.fam ?_
        rw [List.drop_eq_getElem_cons hir, hri]
        exact List.perm_middle
      have O1 := F1.en _ (List.mem_cons_self ..)
      have O1 : wr.ownsRow B 3 1 vi Li.length (Li.map iv) := O1
      obtain ⟨ai, ki, hvi⟩ := own_shp O1
      subst hvi
      have z1 : wr.cell? ⟨gN, i, none⟩ = some (.slice ai Li.length ki) := by
        rw [hO.out.rn.cellAt i (by omega), List.getElem?_map, List.getElem?_eq_getElem hir, hri]; rfl
      have hbase : B ≤ wr.heap.size := Nat.le_trans hB hO.out.fr.2.2.2.1
      have O1 := Lib.hid O1
      have F1 := Lib.hid F1
      have HIN := Lib.hid (show ∀ g, (Value.slice ai Li.length ki).ownBlock = some g → Inr rs g from fun g hg => ⟨_, hmem, hg⟩)
      clear hmem hri
      go_upto_region 6 with (at_builtin; refine wpList_append_own_at _ rfl (.tmp 18) (.tmp 19) 24 rfl B 3 i0 (.int .i64 0) 1 8 Tryd.underlying24 hi0 hz0 hz1 hz2 rfl (by decide) _ _ _ rfl (O1.out.alloc _) ⟨_, 0, none⟩ 2 2 [iv (-1), iv (-2)] rfl rfl (cell_nwb _ [iv (-1), iv (-2)] _ _ (by simp)) (iv_two _ _) (by unfold maxLen; omega) (by omega) (by simp; omega) ?_; intro v5 w5 hown5 hgrow5 hnil5 hloc5)
      have hx5 := ext_box wr #[iv (-1), iv (-2)] 3
      have F5 := Fam.more (ys := [-1, -2]) F1.out hx5 hgrow5 hown5 hloc5
      obtain ⟨g5, c5, rfl, hc5, hg5, hgl5, hcm5⟩ := own_some hown5 (by omega)
      have R5 := (own_ex hO.out.rn hx5).kept hgrow5 (.inr (fun q => by
        have q : _ = (Value.slice ai Li.length ki).ownBlock := q
        obtain ⟨g, hg⟩ : ∃ g, (Value.slice ai Li.length ki).ownBlock = some g := by
          cases e : (Value.slice ai Li.length ki).ownBlock with
          | none => rw [e] at q; cases q
          | some g => exact ⟨g, rfl⟩
        exact own_ne_own hO.out.rn O1.out (by decide) g hg (q.trans hg)))
      have A5 := (own_ex hO.out.al hx5).kept hgrow5 (by
        cases q : u3.ownBlock with
        | none => exact .inl rfl
        | some g => exact .inr (fun e => own_ne_own O1.out hO.out.al (by decide) g q e.symm))
      have X5 := (hO.out.fr.trans (Fr.of_ext (S := fun _ => False) hx5) (fun _ _ q => q.elim)).trans (Fr.of_grown (S := fun g => (Value.slice ai Li.length ki).ownBlock = some g) hgrow5 (fun g hg => hg)) (fun g _ hg => HIN.out g hg)
      have HG5 := Lib.hid (show Inr rs g5 ∨ w.heap.size ≤ g5 by
        rcases hloc5 with e | e
        · exact .inl (HIN.out g5 e.symm)
        · right
          have e : some g5 = some (wr.alloc _).heap.size := e
          have := Option.some.inj e
          have h2 := hO.out.fr.2.2.2.1
          simp at this; omega)
      have hMl : (Li ++ [-1, -2] : List Int).length = Li.length + 2 := by simp
      have HVAL := Lib.hid hO.out.val
      have HTL := Lib.hid (show ts.length = i by have := hO.out.al.1; simpa using this)
      have K0 := Lib.hid (show Ov2 w w5 B n i (Li.length + 2) 0 (.slice (some ⟨gN, 0, none⟩) n cN) u3 (.slice (some ⟨g5, 0, none⟩) (Li.length + 2) c5) rs ts (Li ++ [-1, -2]) from ⟨by simpa using F5, R5, A5, X5⟩)
      obtain ⟨m, hm⟩ : ∃ m, Li.length + 2 = m := ⟨_, rfl⟩
      obtain ⟨M, hM⟩ : ∃ M : List Int, Li ++ [-1, -2] = M := ⟨_, rfl⟩
      rw [hm, hM] at K0
      rw [hm, hM] at hMl
      rw [hm] at hc5
      have HML := Lib.hid hMl
      have hm2 : 2 ≤ m ∧ m ≤ 1000002 := by omega
      simp only [hm]
      clear hx5 F5 R5 A5 X5 hown5 hgrow5 hnil5 hloc5 hO O1 F1 HIN z1 hMl hM hm hg5 hgl5 hbase hLi
      go_wp2_with fail
      go_loopw [6] (fun s6 wr => ∃ k : Nat, k ≤ m ∧ s6 = .int .i64 k ∧ Hid (Ov2 w wr B n i m k (.slice (some ⟨gN, 0, none⟩) n cN) u3 (.slice (some ⟨g5, 0, none⟩) m c5) rs ts M)) (fun s6 _ => m - (intOf s6).toNat)
      case atStart => exact ⟨0, Nat.zero_le _, rfl, K0⟩
      case round =>
        clear K0
        obtain ⟨k, hk, rfl, hO⟩ := hrel
        by_cases hkm : k < m
        · have O5 := hO.out.fam.en _ (List.mem_cons_self ..)
          have O5 : wr.ownsRow B 3 1 (.slice (some ⟨g5, 0, none⟩) m c5) (List.replicate k (-1000 - (i : Int)) ++ M.drop k).length ((List.replicate k (-1000 - (i : Int)) ++ M.drop k).map iv) := O5
          have hlen : (List.replicate k (-1000 - (i : Int)) ++ M.drop k).length = m := by have := HML.out; simp; omega
          rw [hlen] at O5
          have y1 : wr.cell? ⟨g5, k, none⟩ = some (iv (M.getD k 0)) := by
            have hkM : k < M.length := by rw [HML.out]; exact hkm
            rw [O5.cellAt k (by omega), List.getElem?_map, List.getElem?_append_right (by simp), List.length_replicate, Nat.sub_self, List.drop_eq_getElem_cons hkM, getD_get hkM]; rfl
          have y2 := O5.frozenAt k
          have O9 := Lib.hid (hO.out.set (k := k) (by rw [HML.out]; exact hkm) HML.out HG5.out)
          generalize M.getD k 0 = yv at y1
          clear hO O5 hlen
          go_wp2_with fail
          go_roundw
          case rel => exact ⟨k + 1, by omega, by go_num, O9⟩
          case measure => simp [intOf]; omega
        · obtain rfl : m = k := by omega
          have F6 := hO.out.fam
          rw [List.drop_eq_nil_of_le (by rw [HML.out]; exact Nat.le_refl _), List.append_nil] at F6
          have hbase : w.heap.size ≤ wr.heap.size := hO.out.fr.2.2.2.1
          have A6 := Lib.hid hO.out.al
          have hx6 := Lib.hid (ext_box wr #[.slice (some ⟨g5, 0, none⟩) m c5] 24)
          go_wp2_with (at_builtin; refine wpList_append_own_at _ rfl (.tmp 32) (.tmp 34) 23 rfl w.heap.size 24 j0 nilS 1 24 Tryd.underlying23 hj0 hy0 hy1 hy2 rfl (by decide) _ _ _ rfl (A6.out.alloc _) ⟨_, 0, none⟩ 1 1 [.slice (some ⟨g5, 0, none⟩) m c5] rfl rfl (cell_nwb _ [.slice (some ⟨g5, 0, none⟩) m c5] _ _ (by simp)) (fun u hu => by rw [List.mem_singleton.1 hu]; rfl) (by unfold maxLen; omega) (by omega) (by simp; omega) ?_; intro v7 w7 hown7 hgrow7 hnil7 hloc7)
          have hne : ∀ g, u3.ownBlock = some g → ∀ p ∈ ((.slice (some ⟨g5, 0, none⟩) m c5, List.replicate m (-1000 - (i : Int))) :: (ts ++ rs.drop (i + 1)) : List (Value × List Int)), p.1.ownBlock ≠ some g := fun g hg p hp => own_ne_own (F6.en p hp) A6.out (by decide) g hg
          have F7 := Fam.kept F6 hx6.out hgrow7 hne
          have R7 := (own_ex hO.out.rn hx6.out).kept hgrow7 (.inr (fun q => by
            have q : _ = u3.ownBlock := q
            have h1 := HVN.out gN rfl
            have h2 := (World.ownsRow.lt A6.out gN q.symm).1
            omega))
          have X7 := (hO.out.fr.trans (Fr.of_ext (S := fun _ => False) hx6.out) (fun _ _ q => q.elim)).trans (Fr.of_grown (S := fun g => u3.ownBlock = some g) hgrow7 (fun g hg => hg)) (fun g hgl hg => absurd (World.ownsRow.lt A6.out g hg).1 (by omega))
          have O7 := Lib.hid (show Ov1 w w7 B n (i + 1) (.slice (some ⟨gN, 0, none⟩) n cN) v7 rs (ts ++ [(.slice (some ⟨g5, 0, none⟩) m c5, List.replicate m (-1000 - (i : Int)))]) from
            ⟨by
              refine Fam.perm F7 ?_
              rw [List.append_assoc]
              exact List.perm_middle.symm, R7, by rw [List.map_append]; exact hown7, fun j hj => by
              rw [List.length_append, List.length_singleton, HTL.out] at hj
              rcases Nat.lt_or_ge j i with q | q
              · obtain ⟨m', a1, a2, a3⟩ := HVAL.out j (by rw [HTL.out]; exact q)
                exact ⟨m', a1, a2, by rw [List.getElem_append_left (by rw [HTL.out]; exact q)]; exact a3⟩
              · obtain rfl : j = i := by omega
                refine ⟨m, by omega, hm2.2, ?_⟩
                rw [List.getElem_append_right (by rw [HTL.out]; exact Nat.le_refl _)]
                simp [HTL.out], X7⟩)
          clear hO F6 F7 R7 X7 hne hown7 hgrow7 hnil7 hloc7 A6 hx6 HVAL HTL HML HG5
          go_wp2_with fail
          go_roundw
          case rel => exact ⟨i + 1, by omega, by go_num, _, O7⟩
          case measure => simp [intOf]; omega
    · obtain rfl : n = i := by omega
      have HX := Lib.hid hO.out.fr
      have HV := Lib.hid hO.out.val
      have HF := Lib.hid hO.out.fam
      have HA := Lib.hid hO.out.al
      have HTL := Lib.hid (show ts.length = n by have := hO.out.al.1; simpa using this)
      obtain ⟨aA, cA, hA⟩ := own_shp hO.out.al
      subst hA
      clear hO
      go_wp2_with fail
      go_loopw [7] (fun s7 wx => ∃ j : Nat, j ≤ n ∧ s7 = .int .i64 j ∧ wx = wr) (fun s7 _ => n - (intOf s7).toNat)
      case atStart => exact ⟨0, Nat.zero_le _, rfl, rfl⟩
      case round =>
        obtain ⟨j, hj, rfl, rfl⟩ := hrel
        by_cases hjn : j < n
        · have hjt : j < ts.length := by rw [HTL.out]; exact hjn
          obtain ⟨gA, cA2, eA, _, _, _, _⟩ := own_some HA.out (by omega)
          simp only [Value.slice.injEq, true_and] at eA
          obtain ⟨rfl, rfl⟩ := eA
          obtain ⟨m, hm0, hm1, hmv⟩ := HV.out j hjt
          obtain ⟨vj, Lj, htj⟩ : ∃ vi Li, ts[j] = (vi, Li) := ⟨_, _, rfl⟩
          rw [htj] at hmv
          have hmv : Lj = List.replicate m (-1000 - (j : Int)) := hmv
          have hmem : (vj, Lj) ∈ ts ++ rs.drop n := List.mem_append_left _ (by rw [← htj]; exact List.getElem_mem _)
          have O1 : wr.ownsRow B 3 1 vj Lj.length (Lj.map iv) := HF.out.en _ hmem
          rw [hmv, List.length_replicate] at O1
          obtain ⟨gj, cj, hvj, _, _, _, _⟩ := own_some O1 hm0
          subst hvj
          have z1 : wr.cell? ⟨gA, j, none⟩ = some (.slice (some ⟨gj, 0, none⟩) m cj) := by
            rw [HA.out.cellAt j (by omega), List.getElem?_map, List.getElem?_eq_getElem hjt, htj]; rfl
          have O1 := Lib.hid O1
          clear hmv hmem htj
          go_wp2_with fail
          go_loopw [8] (fun s8 wy => ∃ k : Nat, k ≤ m ∧ s8 = .int .i64 k ∧ wy = wr) (fun s8 _ => m - (intOf s8).toNat)
          case atStart => exact ⟨0, Nat.zero_le _, rfl, rfl⟩
          case round =>
            obtain ⟨k, hk, rfl, rfl⟩ := hrel
            by_cases hkm : k < m
            · have z2 : wr.cell? ⟨gj, k, none⟩ = some (iv (-1000 - (j : Int))) := by
                rw [O1.out.cellAt k (by omega), List.getElem?_map, List.getElem?_replicate, if_pos hkm]; rfl
              go_wp2_with fail
              go_roundw
              case rel => exact ⟨k + 1, by omega, by go_num, by first | trivial | rfl⟩
              case measure => simp [intOf]; omega
            · obtain rfl : m = k := by omega
              go_wp2_with fail
              go_roundw
              case rel => exact ⟨j + 1, by omega, by go_num, by first | trivial | rfl⟩
              case measure => simp [intOf]; omega
        · obtain rfl : n = j := by omega
          go_wp2_with fail
          go_ret
          exact ⟨rfl, HX.out⟩
end Go.Proofs.YtnnkomdkggepjaaDoor
namespace Go.Proofs.YtnnkomdkggepjaaDoor
open Go Go.RowKit
theorem Dns.pair {w : World} {a b : Value} {d : Dd} (h1 : Rws w a d.nx) (h2 : Ints w b d.lb) : Dns w (.agg #[a, b]) d := ⟨a, b, rfl, h1, h2⟩
/-- Where a list of automata lies. -/
def Dls (w : World) (a : Option Addr) (L : List Dd) : Prop := L = [] ∨ ∃ b o, a = some ⟨b, o, none⟩ ∧ b < w.heap.size ∧ ∀ i (h : i < L.length), ∃ p q, w.cell? ⟨b, o + i * 2, none⟩ = some p ∧ w.cell? ⟨b, o + i * 2 + 1, none⟩ = some q ∧ Rws w p L[i].nx ∧ Ints w q L[i].lb
theorem Dls.ext {w w' : World} {a : Option Addr} {L : List Dd} (h : Dls w a L) (hx : Ext w w') : Dls w' a L := by
  rcases h with h | ⟨b, o, e, hb, h⟩
  · exact .inl h
  · refine .inr ⟨b, o, e, Nat.lt_of_lt_of_le hb hx.size, fun i hi => ?_⟩
    obtain ⟨p, q, h1, h2, h3, h4⟩ := h i hi
    exact ⟨p, q, (hx.cell (p := ⟨b, _, none⟩) hb).trans h1, (hx.cell (p := ⟨b, _, none⟩) hb).trans h2, h3.ext hx, h4.ext hx⟩
theorem OwnD.dnsq {w w0 : World} {B : Nat} {u vN vL : Value} {vs : List Value} {d : Dd} (h : OwnD w B vN vL vs d) (h0 : Dns w0 u d) : Dns w (.agg #[vN, vL]) d := by
  obtain ⟨a, b, rfl, h1, h2⟩ := h0
  obtain ⟨_, _, _, _, hn, _⟩ := h1.shape
  obtain ⟨_, _, _, _, hl, _⟩ := h2.shape
  obtain ⟨us, hu, _, h3⟩ := h1
  have hvl : vs.length = d.nx.length := by have := h.rn.1; omega
  refine ⟨vN, vL, rfl, ⟨vs, hvl, Slc.of_own h.rn hn, fun i hi => ⟨vs.getD i nilS, by rw [getD_get (by omega)]; exact List.getElem?_eq_getElem _, ?_⟩⟩, Slc.of_own h.rl hl, h2.2⟩
  obtain ⟨x, _, hI⟩ := h3 i hi
  have he := h.en i hi
  rw [getD_get hi] at he
  obtain ⟨_, _, _, _, hr, _⟩ := hI.shape
  exact ⟨Slc.of_own he hr, hI.2⟩
/-- The rows of an automaton of one's own are lists apart. -/
theorem OwnD.fam {w : World} {B : Nat} {vN vL : Value} {vs : List Value} {m : Dd} (h : OwnD w B vN vL vs m) : ∃ rs : List (Value × List Int), rs.map (·.1) = vs ∧ rs.map (·.2) = m.nx ∧ Fam w B rs ∧ ∀ p ∈ rs, Dj vL p.1 := by
  have hvl : vs.length = m.nx.length := by have := h.rn.1; omega
  have e : ∀ j (hj : j < (vs.zip m.nx).length), (vs.zip m.nx)[j] = (vs.getD j nilS, m.nx.getD j []) := fun j hj => by
    rw [List.length_zip] at hj
    rw [List.getElem_zip, getD_get (by omega), getD_get (by omega)]
  refine ⟨vs.zip m.nx, List.map_fst_zip (by omega), List.map_snd_zip (by omega), ⟨fun p hp => ?_, ?_⟩, fun p hp => ?_⟩
  · obtain ⟨j, hj, rfl⟩ := List.getElem_of_mem hp
    rw [e j hj]
    exact h.en j (by rw [List.length_zip] at hj; omega)
  · rw [List.pairwise_iff_getElem]
    intro i j hi hj hij
    rw [e i hi, e j hj]
    rw [List.length_zip] at hi hj
    exact h.dd i j (by omega) (by omega) (by omega)
  · obtain ⟨j, hj, rfl⟩ := List.getElem_of_mem hp
    rw [e j hj]
    exact h.dl j (by rw [List.length_zip] at hj; omega)
/-- What the round over an automaton holds. -/
structure Ex12 (w : World) (d m : Dd) (c : List Int) (cd : Int) (p4 p5 p6 p8 : Nat) (N0 L0 N1 L1 v7 : Value) : Prop where
  b4 : Blk w p4 #[N0, L0] 26
  d4 : Dns w (.agg #[N0, L0]) d
  b5 : Blk w p5 #[N1, L1] 26
  d5 : Dns w (.agg #[N1, L1]) m
  b6 : Blk w p6 (ftc cd) 30
  i7 : Ints w v7 c
  b8 : Blk w p8 (ftc cd) 30
theorem Ex12.ext {w w' : World} {d m : Dd} {c : List Int} {cd : Int} {p4 p5 p6 p8 : Nat} {N0 L0 N1 L1 v7 : Value} (h : Ex12 w d m c cd p4 p5 p6 p8 N0 L0 N1 L1 v7) (hx : Ext w w') : Ex12 w' d m c cd p4 p5 p6 p8 N0 L0 N1 L1 v7 :=
  ⟨h.b4.ext hx, h.d4.ext hx, h.b5.ext hx, h.d5.ext hx, h.b6.ext hx, h.i7.ext hx, h.b8.ext hx⟩
theorem eqdB_self (d : Dd) : eqdB d d = true := eqdB_iff.2 rfl
set_option maxHeartbeats 8000000 in
set_option maxRecDepth 20000 in
theorem exact12_any (L : List Dd) (a : Option Addr) (c : Nat) (ea : Nat → Addr) (w : World) (hx : Dls w a L) (hf : ∀ d ∈ L, d.Few) (hS : Sent w ea) (hG : ErrT w) (hA : Arg w (ea 13)) :
    Calls Tryd.prog 3 #[.slice a L.length c] w fun e w' => e = .returned (.bool true) ∧ Ext w w' := by
  have HX := Lib.hid hx
  have HA := Lib.hid hA
  have HSG := Lib.hid (And.intro hS hG)
  have HF := Lib.hid hf
  clear hx hS hG hA hf
  go_enter Tryd.func3, Tryd.ntmps3
  go_wp2_with fail
  go_loopw [3] (fun i wr => ∃ k : Nat, k ≤ L.length ∧ i = .int .i64 k ∧ Hid (Ext w wr)) (fun i _ => L.length - (intOf i).toNat)
  case atStart => exact ⟨0, Nat.zero_le _, rfl, Lib.hid (Below.refl _ _)⟩
  case round =>
    obtain ⟨k, hk, rfl, hEr⟩ := hrel
    by_cases hkl : k < L.length
    · have k1 : decide ((k : Int) < (L.length : Int)) = true := by simp; omega
      by_cases hk6 : k < 6
      · have k2 : decide ((k : Int) < (6 : Int)) = true := by simp; omega
        rcases HX.out.ext hEr.out with e | ⟨b, o, rfl, hb, hcs⟩
        · rw [e] at hkl; simp at hkl
        obtain ⟨p, q, c0, c1, hR, hI⟩ := hcs k hkl
        have HFd := Lib.hid (HF.out _ (List.getElem_mem hkl))
        have i1 : (k : Int) < (L.length : Int) := by omega
        obtain ⟨nL, hnL⟩ : ∃ n, L.length = n := ⟨_, rfl⟩
        obtain ⟨d, hd⟩ : ∃ d, L[k] = d := ⟨_, rfl⟩
        rw [hd] at hR hI HFd
        have hD := Dns.pair hR hI
        obtain ⟨pa, ca, rfl, _⟩ := hR.shape
        obtain ⟨pb, cb, rfl, _⟩ := hI.shape
        obtain ⟨n, hn⟩ : ∃ n, d.nx.length = n := ⟨_, rfl⟩
        obtain ⟨n2, hn2⟩ : ∃ n, d.lb.length = n := ⟨_, rfl⟩
        rw [hn] at c0 hD
        rw [hn2] at c1 hD
        have HD := Lib.hid hD
        have HNN := Lib.hid (And.intro hn hn2)
        clear hR hI hD hd hcs hn hn2
        simp only [hnL] at *
        clear hnL
        by_cases hbig : 60 < n
        · have d1 : decide ((60 : Int) < (n : Int)) = true := by simp; omega
          clear hbig
          as_aux_lemma =>
            go_wp2_with fail
            go_roundw
            case rel => exact ⟨k + 1, by omega, by go_num, hEr⟩
            case measure => simp [intOf] <;> omega
        · have d1 : decide ((60 : Int) < (n : Int)) = false := by simp; omega
          clear hbig
          have C0 := Lib.hid (And.intro c0 c1)
          go_wp2_with fail
          refine (copyd_any d _ wr HD.out HFd.out).mono ?_
          rintro e w1 ⟨N0, L0, vs0, rfl, od, e1⟩
          have hd4 := od.dnsq HD.out
          have hrn := od.rn
          have hrl := od.rl
          rw [HNN.out.1] at hrn
          rw [HNN.out.2] at hrl
          obtain ⟨aN0, cN0, rfl⟩ := own_shp hrn
          obtain ⟨aL0, cL0, rfl⟩ := own_shp hrl
          have x1 := ext_box w1 #[.slice aN0 n cN0, .slice aL0 n2 cL0] 26
          have B4 := Lib.hid (Blk.new w1 #[.slice aN0 n cN0, .slice aL0 n2 cL0] 26)
          have D4 := Lib.hid (hd4.ext x1)
          have X2 := Lib.hid (bel_call e1 x1)
          clear hd4 hrn hrl x1 od e1 c0 c1
          go_upto_region 6 with fail
          obtain ⟨p4, hp4⟩ : ∃ g, w1.heap.size = g := ⟨_, rfl⟩
          simp only [hp4] at B4 ⊢
          clear hp4
          generalize w1.alloc (.cells #[.slice aN0 n cN0, .slice aL0 n2 cL0] 26) = w2 at *
          have c0 := (X2.out.cell (p := ⟨b, _, none⟩) hb).trans C0.out.1
          have c1 := (X2.out.cell (p := ⟨b, _, none⟩) hb).trans C0.out.2
          go_wp2_with fail
          refine (ler_any (ea 13) d _ w2 (HD.out.ext X2.out)).mono ?_
          rintro e w3 ⟨m, N1, L1, vs1, cd, er, rfl, ht, od, hd5, e3⟩
          obtain ⟨aN1, cN1, rfl⟩ := own_shp od.rn
          obtain ⟨aL1, cL1, rfl⟩ := own_shp od.rl
          obtain ⟨mn, hmn⟩ : ∃ n, m.nx.length = n := ⟨_, rfl⟩
          obtain ⟨ml, hml⟩ : ∃ n, m.lb.length = n := ⟨_, rfl⟩
          rw [hmn, hml] at hd5
          simp only [hmn, hml]
          have HMN := Lib.hid (And.intro hmn hml)
          have HT := Lib.hid ht
          have x3 : Ext w3 ((w3.alloc (.cells #[.slice aN1 mn cN1, .slice aL1 ml cL1] 26)).alloc (.cells (ftc cd) 30)) := by go_grown
          have B5 := Lib.hid ((Blk.new w3 #[.slice aN1 mn cN1, .slice aL1 ml cL1] 26).alloc (.cells (ftc cd) 30))
          have hb6 := Blk.new (w3.alloc (.cells #[.slice aN1 mn cN1, .slice aL1 ml cL1] 26)) (ftc cd) 30
          rw [show (w3.alloc (.cells #[.slice aN1 mn cN1, .slice aL1 ml cL1] 26)).heap.size = w3.heap.size + 1 by simp] at hb6
          have B6 := Lib.hid hb6
          have D5 := Lib.hid (hd5.ext x3)
          have X24 := Lib.hid (bel_call e3 x3)
          clear od hd5 ht hmn hml e3 x3 hb6 c0 c1
          go_upto_region 7 with fail
          obtain ⟨p5, hp5⟩ : ∃ g, w3.heap.size = g := ⟨_, rfl⟩
          simp only [hp5] at B5 B6 ⊢
          clear hp5
          show Code.wp _ _ _ _ ((w3.alloc (.cells #[.slice aN1 mn cN1, .slice aL1 ml cL1] 26)).alloc (.cells (ftc cd) 30))
          generalize (w3.alloc (.cells #[.slice aN1 mn cN1, .slice aL1 ml cL1] 26)).alloc (.cells (ftc cd) 30) = w4 at *
          have X4 := Lib.hid (bel_call X2.out X24.out)
          have c0 := (X4.out.cell (p := ⟨b, _, none⟩) hb).trans C0.out.1
          have c1 := (X4.out.cell (p := ⟨b, _, none⟩) hb).trans C0.out.2
          go_wp2_with fail
          refine (clr_any (HD.out.ext X4.out) HT.out).mono ?_
          rintro e w5 ⟨v7, cs, rfl, hcl, hi7, e5⟩
          have HC := Lib.hid hcl
          have x5 := ext_box w5 (ftc cd) 30
          have B8 := Lib.hid (Blk.new w5 (ftc cd) 30)
          have X46 := Lib.hid (bel_call e5 x5)
          obtain ⟨a7, k7, rfl, _, hl7, _⟩ := hi7.shape
          have I7 := Lib.hid (hi7.ext x5)
          clear hcl hi7 e5 x5 c0 c1
          go_upto_region 8 with fail
          obtain ⟨p8, hp8⟩ : ∃ g, w5.heap.size = g := ⟨_, rfl⟩
          simp only [hp8] at B8 ⊢
          clear hp8
          show Code.wp _ _ _ _ (w5.alloc (.cells (ftc cd) 30))
          generalize w5.alloc (.cells (ftc cd) 30) = w6 at *
          obtain ⟨nc, hnc⟩ : ∃ n, cs.length = n := ⟨_, rfl⟩
          have HNC := Lib.hid hnc
          simp only [hnc] at I7 hl7 ⊢
          have HEX := Lib.hid (show Ex12 w6 d m cs cd p4 p5 (p5 + 1) p8 (.slice aN0 n cN0) (.slice aL0 n2 cL0) (.slice aN1 mn cN1) (.slice aL1 ml cL1) (.slice a7 nc k7) from
            ⟨B4.out.ext (bel_call X24.out X46.out), D4.out.ext (bel_call X24.out X46.out), B5.out.ext X46.out, D5.out.ext X46.out, B6.out.ext X46.out, I7.out, B8.out⟩)
          have X6 := Lib.hid (bel_call hEr.out (bel_call X4.out X46.out))
          have XR := Lib.hid (bel_call X4.out X46.out)
          clear B4 D4 X2 B5 B6 D5 X24 X4 B8 X46 I7 hnc
          have HSM : Hid (∀ w', Ext w w' → Calls Tryd.prog 9 #[er, ftq cd] w' fun e w2 => e = .returned (.bool true) ∧ Ext w' w2) := Lib.hid (by
            intro w' hx'
            cases HT.out with
            | ok _ _ => exact same_nil8 _ 0 0 0 [] w' ⟨_, rfl, Texts.nil w'⟩
            | no _ _ => exact same_err8 ea [] (errAt (ea 13)) _ (ea 13) 15 0 0 0 [] w' (HSG.out.1.ext hx') (HSG.out.2.ext hx') (ErrOf.base ((HSG.out.1.ext hx').row 13 (by omega))) (code_at (HSG.out.1.ext hx') 16 0 13 rfl (by omega) (by omega)) rfl rfl rfl rfl (by decide) ⟨_, rfl, Texts.nil w'⟩)
          have HEQ : Hid (∀ w' u v, Dns w' u d → Dns w' v d → Calls Tryd.prog 10 #[u, v] w' fun e w2 => e = .returned (.bool true) ∧ Ext w' w2) := Lib.hid (fun w' u v h h' => by
            have := eqd_any d d u v w' h h'
            rwa [eqdB_self] at this)
          have HEM : Hid (∀ w' u v, Dns w' u m → Dns w' v m → Calls Tryd.prog 10 #[u, v] w' fun e w2 => e = .returned (.bool true) ∧ Ext w' w2) := Lib.hid (fun w' u v h h' => by
            have := eqd_any m m u v w' h h'
            rwa [eqdB_self] at this)
          have HEI : Hid (∀ w' u v, Ints w' u cs → Ints w' v cs → Calls Tryd.prog 11 #[u, v] w' fun e w2 => e = .returned (.bool true) ∧ Ext w' w2) := Lib.hid (fun w' u v h h' => by
            have := eqi_any cs cs u v w' h h'
            rwa [decide_eq_true rfl] at this)
          go_wp2_with fail
          obtain ⟨wo, rfl⟩ : ∃ wo : World, wo = wr := ⟨_, rfl⟩
          go_loopw [9] (fun s9 wx => ∃ t : Nat, t ≤ 2 ∧ s9 = .int .i64 t ∧ Hid (Ext w6 wx)) (fun s9 _ => 2 - (intOf s9).toNat)
          case atStart => exact ⟨0, by omega, rfl, Lib.hid (Below.refl _ _)⟩
          case round =>
            obtain ⟨t, ht, rfl, hE6⟩ := hrel
            by_cases ht2 : t < 2
            · have t1 : decide ((t : Int) < 2) = true := decide_eq_true (by omega)
              as_aux_lemma =>
                have hE := HEX.out.ext hE6.out
                have z0 := hE.b4.cell 0
                have z1 := hE.b4.cell 1
                have HM := Lib.hid (mle_any (hE.d4) HT.out (HA.out.ext (bel_call X6.out hE6.out)))
                clear hE
                go_wp2_with fail
                refine HM.out.mono ?_
                rintro e w7 ⟨vN, vL, vs, rfl, od, hdx, hr256, hn6, hl6, e7⟩
                obtain ⟨aN, cN, rfl⟩ := own_shp od.rn
                obtain ⟨aL, cL, rfl⟩ := own_shp od.rl
                rw [HMN.out.1, HMN.out.2] at hdx
                rw [HMN.out.1] at hn6
                rw [HMN.out.2] at hl6
                have hvN : Value.slice aN m.nx.length cN = .slice aN mn cN := by rw [HMN.out.1]
                have hvL : Value.slice aL m.lb.length cL = .slice aL ml cL := by rw [HMN.out.2]
                rw [hvN, hvL] at od
                rw [hvN, hvL]
                clear hvN hvL
                have x7 := ext_box w7 #[.slice aN mn cN, .slice aL ml cL] 26
                have B10 := Lib.hid (Blk.new w7 #[.slice aN mn cN, .slice aL ml cL] 26)
                have OD := Lib.hid (od.ext x7)
                have DX := Lib.hid (hdx.ext x7)
                have X7 := Lib.hid (bel_call e7 x7)
                have HR256 := Lib.hid hr256
                clear od hdx hr256 e7 x7 HM z0 z1
                go_upto_region 12 with fail
                obtain ⟨p10, hp10⟩ : ∃ g, w7.heap.size = g := ⟨_, rfl⟩
                simp only [hp10] at B10 ⊢
                clear hp10
                generalize w7.alloc (.cells #[.slice aN mn cN, .slice aL ml cL] 26) = w8 at *
                have hE := HEX.out.ext (bel_call hE6.out X7.out)
                have z0 := hE.b4.cell 0
                have z1 := hE.b4.cell 1
                have HM := Lib.hid (mcl_any (hE.d4) HT.out HC.out (HA.out.ext (bel_call (bel_call X6.out hE6.out) X7.out)))
                clear hE
                go_wp2_with fail
                refine HM.out.mono ?_
                rintro e w9 ⟨vc, rfl, oc, hic, hc6, e9⟩
                obtain ⟨ac, kc, rfl⟩ := own_shp oc
                have hvc : Value.slice ac cs.length kc = .slice ac nc kc := by rw [HNC.out]
                rw [HNC.out] at hc6
                rw [hvc] at oc hic
                rw [hvc]
                rw [HNC.out] at oc
                have OC := Lib.hid oc
                have IC := Lib.hid hic
                have X9 := Lib.hid e9
                clear hvc oc hic e9 HM z0 z1
                obtain ⟨rs, hr1, hr2, hfam8, hdj⟩ := OD.out.fam
                have HR1 := Lib.hid hr1
                have HR2 := Lib.hid hr2
                have HFM := Lib.hid hfam8
                have HDJ := Lib.hid hdj
                have H8 := Lib.hid X7.out.size
                clear hr1 hr2 hfam8 hdj
                go_upto_region 13 with fail
                have XE9 := Lib.hid (bel_call hE6.out (bel_call X7.out X9.out))
                obtain ⟨f0, f1, f2, f3, f4⟩ := (HEX.out.b6.ext XE9.out).cells5
                go_wp2_with fail
                refine (HSM.out w9 (bel_call X6.out XE9.out)).mono ?_
                rintro e w10 ⟨rfl, e10⟩
                have XC10 := Lib.hid e10
                clear f0 f1 f2 f3 f4 e10
                obtain ⟨f0, f1, f2, f3, f4⟩ := (HEX.out.b8.ext (bel_call XE9.out XC10.out)).cells5
                go_wp2_with fail
                refine (HSM.out w10 (bel_call X6.out (bel_call XE9.out XC10.out))).mono ?_
                rintro e w11 ⟨rfl, e11⟩
                have XC11 := Lib.hid (bel_call XC10.out e11)
                clear f0 f1 f2 f3 f4 e11 XC10
                have z0 := (HEX.out.b5.ext (bel_call XE9.out XC11.out)).cell 0
                have z1 := (HEX.out.b5.ext (bel_call XE9.out XC11.out)).cell 1
                have z2 := (B10.out.ext (bel_call X9.out XC11.out)).cell 0
                have z3 := (B10.out.ext (bel_call X9.out XC11.out)).cell 1
                go_wp2_with fail
                refine (HEM.out w11 _ _ (DX.out.ext (bel_call X9.out XC11.out)) (HEX.out.d5.ext (bel_call XE9.out XC11.out))).mono ?_
                rintro e w12 ⟨rfl, e12⟩
                have XC12 := Lib.hid (bel_call XC11.out e12)
                clear z0 z1 z2 z3 e12 XC11
                go_wp2_with fail
                refine (HEI.out w12 _ _ (IC.out.ext XC12.out) (HEX.out.i7.ext (bel_call XE9.out XC12.out))).mono ?_
                rintro e w13 ⟨rfl, e13⟩
                have XC13 := Lib.hid (bel_call XC12.out e13)
                clear e13 XC12
                have X13 := Lib.hid (bel_call X9.out XC13.out)
                have z2 := (B10.out.ext X13.out).cell 0
                have hrn := (OD.out.ext X13.out).rn
                rw [HMN.out.1, ← HR1.out] at hrn
                have hw13 : wr.heap.size ≤ w13.heap.size := Nat.le_trans H8.out X13.out.size
                have HOV := Lib.hid (overr_any wr.heap.size mn rs _ w13 hrn (HFM.out.ext X13.out) (by omega) hw13 (fun p hp => by
                  have := HR256.out p.2 (by rw [← HR2.out]; exact List.mem_map_of_mem hp)
                  omega))
                clear hrn
                go_wp2_with fail
                refine HOV.out.mono ?_
                rintro e w14 ⟨rfl, f14⟩
                have hB13 := B10.out.ext X13.out
                have B14 := f14.blk hB13 (fun hi => by
                  obtain ⟨p, hp, q⟩ := hi
                  exact own_ne_blk ((HFM.out.ext X13.out).en p hp) hB13 (by decide) q)
                have L14 := f14.own (OD.out.ext X13.out).rl (fun k hk hi => by
                  obtain ⟨p, hp, q⟩ := hi
                  exact HDJ.out p hp k hk q)
                rw [HMN.out.2] at L14
                have C14 := f14.own (own_ex OC.out XC13.out) (fun k hk hi => by
                  obtain ⟨p, hp, q⟩ := hi
                  have h1 := (World.ownsRow.lt OC.out k hk).1
                  have h2 := (HFM.out.lt hp q).2
                  omega)
                have EB14 := Lib.hid (f14.below hw13 (fun k hk hi => by
                  obtain ⟨p, hp, q⟩ := hi
                  have h2 := (HFM.out.lt hp q).1
                  omega))
                have hw14 : wr.heap.size ≤ w14.heap.size := Nat.le_trans hw13 EB14.out.size
                have hw814 : w8.heap.size ≤ w14.heap.size := Nat.le_trans X13.out.size EB14.out.size
                have HL14 := Lib.hid (overi_any ml wr.heap.size _ _ w14 L14 (by omega) hw14)
                have C14 := Lib.hid C14
                have z3 := B14.cell 1
                clear z2 HOV f14 hB13 B14 L14
                go_wp2_with fail
                refine HL14.out.mono ?_
                rintro e w15 ⟨rfl, f15⟩
                have hLo := World.ownsRow.lt OD.out.rl
                have C15 := f15.own C14.out (fun k hk q => by
                  have h1 := (World.ownsRow.lt OC.out k hk).1
                  have h2 := (hLo k q).2
                  omega)
                have EB15 := Lib.hid (f15.below hw14 (fun k hk q => by
                  have h2 := (hLo k q).1
                  omega))
                have hw15 : w8.heap.size ≤ w15.heap.size := Nat.le_trans hw814 EB15.out.size
                have HC15 := Lib.hid (overi_any nc w8.heap.size _ _ w15 C15 (by omega) hw15)
                clear z3 HL14 f15 hLo C15 C14
                go_wp2_with fail
                refine HC15.out.mono ?_
                rintro e w16 ⟨rfl, f16⟩
                have EB16 := Lib.hid (f16.below (Nat.le_trans hw14 EB15.out.size) (fun k hk q => by
                  have h1 := (World.ownsRow.lt OC.out k q).1
                  have := H8.out
                  omega))
                have X16 : Ext wr w16 := Below.trans (B := wr.heap.size) (Below.trans (B := wr.heap.size) (Below.trans (B := wr.heap.size) (bel_call X7.out X13.out) EB14.out) EB15.out) EB16.out
                have E16 := Lib.hid (bel_call hE6.out X16)
                clear f16 X16 HC15
                go_wp2_with fail
                go_roundw
                case rel => exact ⟨t + 1, by omega, by go_num, E16⟩
                case measure => simp [intOf] <;> omega
            · obtain rfl : t = 2 := by omega
              have t1 : decide ((2 : Int) < 2) = false := by decide
              as_aux_lemma =>
                go_upto_region 17 with fail
                have XW := Lib.hid (bel_call XR.out hE6.out)
                refine G.wp_region_stab (G := Ext) (fun _ => none) (by kernel_rfl) (by kernel_rfl) (fun _ _ h => by cases h) (fun hex => ?_)
                iterate 5
                  (refine G.wpS_one (A := ?_) hex rfl rfl (by simp) ?_ ?_ ?_
                   rotate_left 2
                   · intro w' hC K hK
                     have hCx := hC.1; have z0 := (HEX.out.b4.ext (bel_call hE6.out hCx)).cell 0; have z1 := (HEX.out.b4.ext (bel_call hE6.out hCx)).cell 1; have c0 := ((bel_call XW.out hCx).cell (p := ⟨b, o + k * 2, none⟩) hb).trans C0.out.1; have c1 := ((bel_call XW.out hCx).cell (p := ⟨b, o + k * 2 + 1, none⟩) hb).trans C0.out.2
                     go_wp2_with (fail)
                     refine hK _ ?_
                     first | exact Below.refl _ _ | assumption | ((repeat' (first | (with_reducible exact Below.refl _ _) | (with_reducible assumption) | (with_reducible refine below_drewN ?_ _) | (with_reducible refine Below.alloc ?_ ?_ _) | (with_reducible refine Below.drew ?_) | (with_reducible refine Below.setCell ?_ ?_ _) | (with_reducible refine Below.trans ?_ (Below.mono (by with_reducible assumption) ?_)) | go_size)))
                   rotate_left 1
                   · rfl
                   clear hex; intro hex)
                refine G.wpS_one (A := ?_) hex rfl rfl (by simp) ?_ ?_ ?_
                rotate_left 2
                · intro w' hC K hK
                  have hCx := hC.1; have hda := HEX.out.d4.ext (bel_call hE6.out hCx); have hdb := HD.out.ext (bel_call XW.out hCx)
                  go_wp2_with (go_at_call 10; with_reducible refine (HEQ.out w' _ _ hda hdb).mono ?_; rintro e w9 ⟨rfl, x9⟩)
                  refine hK _ ?_
                  first | exact Below.refl _ _ | assumption | ((repeat' (first | (with_reducible exact Below.refl _ _) | (with_reducible assumption) | (with_reducible refine below_drewN ?_ _) | (with_reducible refine Below.alloc ?_ ?_ _) | (with_reducible refine Below.drew ?_) | (with_reducible refine Below.setCell ?_ ?_ _) | (with_reducible refine Below.trans ?_ (Below.mono (by with_reducible assumption) ?_)) | go_size)))
                rotate_left 1
                · rfl
                clear hex; intro hex
                refine G.wpS_one (A := ?_) hex rfl rfl (by simp) ?_ ?_ ?_
                rotate_left 2
                · intro w' hC K hK
                  go_wp2_with (fail)
                  refine hK _ ?_
                  first | exact Below.refl _ _ | assumption | ((repeat' (first | (with_reducible exact Below.refl _ _) | (with_reducible assumption) | (with_reducible refine below_drewN ?_ _) | (with_reducible refine Below.alloc ?_ ?_ _) | (with_reducible refine Below.drew ?_) | (with_reducible refine Below.setCell ?_ ?_ _) | (with_reducible refine Below.trans ?_ (Below.mono (by with_reducible assumption) ?_)) | go_size)))
                rotate_left 1
                · rfl
                clear hex; intro hex
                refine G.wpS_nil fun w9 hAll => ?_
                have hE := hAll.1
                have X9 := Lib.hid (bel_call hEr.out (bel_call XW.out hE))
                clear hE hex hAll
                go_wp2_with fail
                go_roundw
                case rel => exact ⟨k + 1, by omega, by go_num, X9⟩
                case measure => simp [intOf] <;> omega
      · have k2 : decide ((k : Int) < (6 : Int)) = false := by simp; omega
        as_aux_lemma =>
          go_wp2_with fail
          refine (wakes12_any _).mono ?_; rintro e w2 ⟨rfl, e2⟩
          have X2 := Lib.hid (bel_call hEr.out e2)
          clear e2
          go_wp2_with fail
          go_ret
          exact ⟨rfl, X2.out⟩
    · obtain rfl : L.length = k := by omega
      as_aux_lemma =>
        go_wp2_with fail
        refine (wakes12_any _).mono ?_; rintro e w2 ⟨rfl, e2⟩
        have X2 := Lib.hid (bel_call hEr.out e2)
        clear e2
        go_wp2_with fail
        go_ret
        exact ⟨rfl, X2.out⟩
end Go.Proofs.YtnnkomdkggepjaaDoor
namespace Go.Proofs.YtnnkomdkggepjaaDoor
open Go Go.ChangeShapes Go.WideShapes Go.ChangeAt Go.RowKit
theorem addr_addq (b off i : Nat) : (⟨b, off, none⟩ : Addr).add i = ⟨b, off + i, none⟩ := by unfold Addr.add; split <;> simp_all
theorem two_ofq {α : Type} {l : List α} (h : l.length = 2) : ∃ a b, l = [a, b] :=
  match l, h with
  | [a, b], _ => ⟨a, b, rfl⟩
theorem weights_allq {H : Type} {P : Program} {e : TypeId} : ∀ {l : List (DataW H)} {d : DataW H}, d ∈ l → ∀ n ∈ d.weights P e, n ∈ DataW.weightsAll P e l
  | [], _, h, _, _ => by cases h
  | x :: l, d, h, n, hn => by
    simp only [DataW.weightsAll, List.mem_append]
    rcases List.mem_cons.1 h with rfl | h
    · exact .inl hn
    · exact .inr (weights_allq h n hn)
theorem i64_ofq {n : Int} (h : (Lit.int .i64 n).wf = true) : -9223372036854775808 ≤ n ∧ n ≤ 9223372036854775807 := by
  simp only [Lit.wf, IntKind.min, IntKind.max, IntKind.signed, IntKind.bits, Bool.and_eq_true] at h
  simp at h
  omega
section
variable {H : Type} {enc : TypeId × Value → H} {w : World}
theorem open_ints8 {k : Nat} {v : Value} {y : DataW H × List MemPlace} (h : DataW.trod enc Tryd.prog w 0 (fun _ => true) true k 24 [v] = some y) (hw : ∀ n ∈ y.1.weights Tryd.prog 24, n ≤ reachBytes) : ∃ L, Ints w v L ∧ L.length * 8 ≤ 140737488355328 := by
  have c1 : Tryd.prog.cellsOf 3 = 1 := by kernel_rfl
  have b8 : Tryd.prog.bytesOf 3 = 8 := by kernel_rfl
  rcases DataW.trod_slice Tryd.underlying24 h with ⟨hcs, _⟩ | ⟨a, len, cap, elems, rest, m, hm, hcs, hxe, hb, hle, hcm, helen, hel, hsp, hns⟩
  · simp only [List.cons.injEq, and_true] at hcs
    subst hcs
    exact ⟨[], ⟨Slc.nil w, fun x hx => by cases hx⟩, by simp⟩
  · simp only [List.cons.injEq, and_true] at hcs
    subst hcs
    have hS : ∀ i, ∃ n : Int, i < len → w.cell? (a.add i) = some (.int .i64 n) ∧ -9223372036854775808 ≤ n ∧ n ≤ 9223372036854775807 := by
      intro i
      by_cases hi : i < len
      · have hi2 := hel i hi
        rw [List.getElem?_eq_getElem (by omega), c1] at hi2
        obtain ⟨cs', h1, h2⟩ := Option.bind_eq_some_iff.1 hi2
        obtain ⟨n, rfl, _, hn⟩ := DataW.trod_int Tryd.underlying3 h2
        obtain ⟨_, _, hc⟩ := World.cells?_some h1
        have := hc 0 (by omega)
        exact ⟨n, fun _ => ⟨by simpa [Addr.add] using this, i64_ofq hn⟩⟩
      · exact ⟨0, fun h => absurd h hi⟩
    obtain ⟨X, hX⟩ := Classical.axiomOfChoice hS
    have hwl := hw ((elems.length + rest.length) * 8) (by rw [hxe]; simp [DataW.weights, Tryd.underlying24, b8])
    simp only [reachBytes] at hwl
    refine ⟨(List.range len).map X, ⟨⟨some a, cap, by simp, by simpa using hle, ⟨by simp; omega, hcm⟩, ?_⟩, fun x hx => ?_⟩, by simp; omega⟩
    · by_cases h0 : len = 0
      · subst h0; exact .inl rfl
      · obtain ⟨b, off, spot⟩ := a
        have h00 := (hX 0 (by omega)).1
        have hspot : spot = none := by simpa [Addr.add] using World.cell?_spot h00
        subst hspot
        simp only [addr_addq] at hX h00
        refine .inr ⟨b, off, rfl, World.block_lt_of_cell? w (⟨b, off + 0, none⟩ : Addr) h00, fun i hi => ?_⟩
        have hi' : i < len := by simpa using hi
        rw [(hX i hi').1]
        simp [hi']
    · obtain ⟨i, hi, rfl⟩ := List.mem_map.1 hx
      exact (hX i (List.mem_range.1 hi)).2
theorem open_intsq {k : Nat} {v : Value} {y : DataW H × List MemPlace} (h : DataW.trod enc Tryd.prog w 0 (fun _ => true) true k 24 [v] = some y) (hw : ∀ n ∈ y.1.weights Tryd.prog 24, n ≤ reachBytes) : ∃ L, Ints w v L := by
  obtain ⟨L, hL, _⟩ := open_ints8 h hw
  exact ⟨L, hL⟩
theorem open_rows8 {k : Nat} {v : Value} {y : DataW H × List MemPlace} (h : DataW.trod enc Tryd.prog w 0 (fun _ => true) true k 23 [v] = some y) (hw : ∀ n ∈ y.1.weights Tryd.prog 23, n ≤ reachBytes) : ∃ R, Rws w v R ∧ (∀ L ∈ R, L.length * 8 ≤ 140737488355328) ∧ R.length * 24 ≤ 140737488355328 := by
  have c1 : Tryd.prog.cellsOf 24 = 1 := by kernel_rfl
  have b8 : Tryd.prog.bytesOf 24 = 24 := by kernel_rfl
  rcases DataW.trod_slice Tryd.underlying23 h with ⟨hcs, _⟩ | ⟨a, len, cap, elems, rest, m, hm, hcs, hxe, hb, hle, hcm, helen, hel, hsp, hns⟩
  · simp only [List.cons.injEq, and_true] at hcs
    subst hcs
    exact ⟨[], ⟨[], rfl, Slc.nil w, fun i hi => by cases hi⟩, (fun L hL => by cases hL), by simp⟩
  · simp only [List.cons.injEq, and_true] at hcs
    subst hcs
    have hS : ∀ i, ∃ (u : Value) (L : List Int), i < len → w.cell? (a.add i) = some u ∧ Ints w u L ∧ L.length * 8 ≤ 140737488355328 := by
      intro i
      by_cases hi : i < len
      · have hi2 := hel i hi
        rw [List.getElem?_eq_getElem (by omega), c1] at hi2
        obtain ⟨cs', h1, h2⟩ := Option.bind_eq_some_iff.1 hi2
        obtain ⟨hlen, _, hc⟩ := World.cells?_some h1
        match cs', hlen with
        | [u], _ =>
          obtain ⟨L, hL, h8⟩ := open_ints8 h2 fun n hn => hw n (by
            rw [hxe]
            simp only [DataW.weights, Tryd.underlying23, List.mem_cons, List.mem_append]
            exact .inr (.inl (weights_allq (List.mem_map.2 ⟨elems[i], List.getElem_mem _, rfl⟩) n hn)))
          have := hc 0 (by omega)
          exact ⟨u, L, fun _ => ⟨by simpa [Addr.add] using this, hL, h8⟩⟩
      · exact ⟨.slice none 0 0, [], fun h => absurd h hi⟩
    obtain ⟨X, hX⟩ := Classical.axiomOfChoice hS
    obtain ⟨Z, hX⟩ := Classical.axiomOfChoice hX
    have hwl := hw ((elems.length + rest.length) * 24) (by rw [hxe]; simp [DataW.weights, Tryd.underlying23, b8])
    simp only [reachBytes] at hwl
    refine ⟨(List.range len).map Z, ⟨(List.range len).map X, by simp, ⟨some a, cap, by simp, by simpa using hle, ⟨by simp; omega, hcm⟩, ?_⟩, fun i hi => ?_⟩, fun L hL => ?_, by simp; omega⟩
    · by_cases h0 : len = 0
      · subst h0; exact .inl rfl
      · obtain ⟨b, off, spot⟩ := a
        have h00 := (hX 0 (by omega)).1
        have hspot : spot = none := by simpa [Addr.add] using World.cell?_spot h00
        subst hspot
        simp only [addr_addq] at hX h00
        refine .inr ⟨b, off, rfl, World.block_lt_of_cell? w (⟨b, off + 0, none⟩ : Addr) h00, fun i hi => ?_⟩
        have hi' : i < len := by simpa using hi
        rw [(hX i hi').1]
        simp [hi']
    · have hi' : i < len := by simpa using hi
      exact ⟨X i, by simp [hi'], by simpa using (hX i hi').2.1⟩
    · obtain ⟨i, hi, rfl⟩ := List.mem_map.1 hL
      exact (hX i (List.mem_range.1 hi)).2.2
theorem open_rowsq {k : Nat} {v : Value} {y : DataW H × List MemPlace} (h : DataW.trod enc Tryd.prog w 0 (fun _ => true) true k 23 [v] = some y) (hw : ∀ n ∈ y.1.weights Tryd.prog 23, n ≤ reachBytes) : ∃ R, Rws w v R := by
  obtain ⟨R, hR, _⟩ := open_rows8 h hw
  exact ⟨R, hR⟩
/-- An automaton that is not beyond the reach. -/
def Wee (d : Dd) : Prop := d.lb.length * 8 ≤ 140737488355328 ∧ (∀ L ∈ d.nx, L.length * 8 ≤ 140737488355328) ∧ d.nx.length * 24 ≤ 140737488355328
theorem open_dense8 {k : Nat} {cs : List Value} {y : DataW H × List MemPlace} (h : DataW.trod enc Tryd.prog w 0 (fun _ => true) true k 26 cs = some y) (hw : ∀ n ∈ y.1.weights Tryd.prog 26, n ≤ reachBytes) : ∃ (a b : Value) (d : Dd), cs = [a, b] ∧ Rws w a d.nx ∧ Ints w b d.lb ∧ Wee d := by
  have c1a : Tryd.prog.cellsOf 23 = 1 := by kernel_rfl
  have c1b : Tryd.prog.cellsOf 24 = 1 := by kernel_rfl
  have c2 : Tryd.prog.cellsOf 26 = 2 := by kernel_rfl
  obtain ⟨z0, z1, m, hx0, hl0, g0, g1⟩ := trod_struct2 Tryd.underlying26 h
  rw [c2] at hl0
  obtain ⟨x0, x1, rfl⟩ := two_ofq hl0
  simp only [c1a, c1b, List.drop_zero, List.drop_succ_cons, List.take_succ_cons, List.take_zero] at g0 g1
  have hww : ∀ (j : Nat) (t : TypeId) (d : DataW H), [23, 24][j]? = some t → [z0.1, z1.1][j]? = some d → ∀ m ∈ d.weights Tryd.prog t, m ≤ reachBytes := by
    intro j t d ht hd m hm
    refine hw m ?_
    rw [hx0]
    simp only [DataW.weights, Tryd.underlying26]
    exact DataW.weights_mem_each (ts := [23, 24]) (ds := [z0.1, z1.1]) ht hd m hm
  obtain ⟨R, hR, h2, h3⟩ := open_rows8 g0 (hww 0 _ _ rfl rfl)
  obtain ⟨L, hL, h1⟩ := open_ints8 g1 (hww 1 _ _ rfl rfl)
  exact ⟨x0, x1, ⟨R, L⟩, rfl, hR, hL, h1, h2, h3⟩
theorem open_dense {k : Nat} {cs : List Value} {y : DataW H × List MemPlace} (h : DataW.trod enc Tryd.prog w 0 (fun _ => true) true k 26 cs = some y) (hw : ∀ n ∈ y.1.weights Tryd.prog 26, n ≤ reachBytes) : ∃ (a b : Value) (d : Dd), cs = [a, b] ∧ Rws w a d.nx ∧ Ints w b d.lb := by
  obtain ⟨a, b, d, e, h1, h2, _⟩ := open_dense8 h hw
  exact ⟨a, b, d, e, h1, h2⟩
theorem open_denses {k : Nat} {v : Value} {y : DataW H × List MemPlace} (h : DataW.trod enc Tryd.prog w 0 (fun _ => true) true k 22 [v] = some y) (hw : ∀ n ∈ y.1.weights Tryd.prog 22, n ≤ reachBytes) :
    ∃ a c L, v = .slice a (L : List Dd).length c ∧ L.length ≤ 140737488355328 ∧ (L = [] ∨ ∃ b o, a = some ⟨b, o, none⟩ ∧ b < w.heap.size ∧ ∀ i (h : i < L.length), ∃ p q, w.cell? ⟨b, o + i * 2, none⟩ = some p ∧ w.cell? ⟨b, o + i * 2 + 1, none⟩ = some q ∧ Rws w p L[i].nx ∧ Ints w q L[i].lb) ∧ ∀ d ∈ L, Wee d := by
  have c2 : Tryd.prog.cellsOf 26 = 2 := by kernel_rfl
  have b48 : Tryd.prog.bytesOf 26 = 48 := by kernel_rfl
  rcases DataW.trod_slice Tryd.underlying22 h with ⟨hcs, _⟩ | ⟨a, len, cap, elems, rest, m, hm, hcs, hxe, hb, hle, hcm, helen, hel, hsp, hns⟩
  · simp only [List.cons.injEq, and_true] at hcs
    subst hcs
    exact ⟨none, 0, [], rfl, by simp, .inl rfl, fun d hd => by cases hd⟩
  · simp only [List.cons.injEq, and_true] at hcs
    subst hcs
    have hS : ∀ i, ∃ (p q : Value) (d : Dd), i < len → (∀ j, j < 2 → w.cell? ((a.add (i * 2)).add j) = [p, q][j]?) ∧ Rws w p d.nx ∧ Ints w q d.lb ∧ Wee d := by
      intro i
      by_cases hi : i < len
      · have hi2 := hel i hi
        rw [List.getElem?_eq_getElem (by omega), c2] at hi2
        obtain ⟨cs', h1, h2⟩ := Option.bind_eq_some_iff.1 hi2
        obtain ⟨p, q, d, rfl, hp, hq, hwe⟩ := open_dense8 h2 fun n hn => hw n (by
          rw [hxe]
          simp only [DataW.weights, Tryd.underlying22, List.mem_cons, List.mem_append]
          exact .inr (.inl (weights_allq (List.mem_map.2 ⟨elems[i], List.getElem_mem _, rfl⟩) n hn)))
        obtain ⟨_, _, hc⟩ := World.cells?_some h1
        exact ⟨p, q, d, fun _ => ⟨fun j hj => hc j hj, hp, hq, hwe⟩⟩
      · exact ⟨.slice none 0 0, .slice none 0 0, ⟨[], []⟩, fun h => absurd h hi⟩
    obtain ⟨P, hX⟩ := Classical.axiomOfChoice hS
    obtain ⟨Q, hX⟩ := Classical.axiomOfChoice hX
    obtain ⟨D, hX⟩ := Classical.axiomOfChoice hX
    have hwl := hw ((elems.length + rest.length) * 48) (by rw [hxe]; simp [DataW.weights, Tryd.underlying22, b48])
    simp only [reachBytes] at hwl
    refine ⟨some a, cap, (List.range len).map D, by simp, by simp; omega, ?_, fun d hd => by
      obtain ⟨i, hi, rfl⟩ := List.mem_map.1 hd
      exact (hX i (List.mem_range.1 hi)).2.2.2⟩
    by_cases h0 : len = 0
    · subst h0; exact .inl rfl
    · obtain ⟨b, off, spot⟩ := a
      have h00 := (hX 0 (by omega)).1 0 (by decide)
      have hspot : spot = none := by
        have : ([P 0, Q 0] : List Value)[0]? = some (P 0) := rfl
        rw [this] at h00
        simpa [Addr.add] using World.cell?_spot h00
      subst hspot
      simp only [addr_addq] at hX h00
      refine .inr ⟨b, off, rfl, World.block_lt_of_cell? w (⟨b, off + 0 * 2 + 0, none⟩ : Addr) h00, fun i hi => ?_⟩
      have hi' : i < len := by simpa using hi
      obtain ⟨h1, h2, h3, _⟩ := hX i hi'
      have e0 := h1 0 (by decide)
      have e1 := h1 1 (by decide)
      simp only [List.getElem_map, List.getElem_range]
      exact ⟨P i, Q i, by simpa using e0, by simpa using e1, h2, h3⟩
end
end Go.Proofs.YtnnkomdkggepjaaDoor
namespace Go.Proofs.YtnnkomdkggepjaaDoor
open Go Go.ChangeShapes Go.WideShapes Go.ChangeAt Go.RowKit
abbrev laid_leastExact : List (String × DataW Unit) := Rows.leastExactRow.laid.filter fun x => x.2.handleName?.isNone
theorem mem_leastExact : ∀ k, k < 16 → (snm.getD k "", sdat k) ∈ laid_leastExact
  | 0, _ => List.mem_of_getElem? (i := 0) (by kernel_rfl)
  | 1, _ => List.mem_of_getElem? (i := 1) (by kernel_rfl)
  | 2, _ => List.mem_of_getElem? (i := 2) (by kernel_rfl)
  | 3, _ => List.mem_of_getElem? (i := 3) (by kernel_rfl)
  | 4, _ => List.mem_of_getElem? (i := 4) (by kernel_rfl)
  | 5, _ => List.mem_of_getElem? (i := 5) (by kernel_rfl)
  | 6, _ => List.mem_of_getElem? (i := 6) (by kernel_rfl)
  | 7, _ => List.mem_of_getElem? (i := 7) (by kernel_rfl)
  | 8, _ => List.mem_of_getElem? (i := 8) (by kernel_rfl)
  | 9, _ => List.mem_of_getElem? (i := 9) (by kernel_rfl)
  | 10, _ => List.mem_of_getElem? (i := 10) (by kernel_rfl)
  | 11, _ => List.mem_of_getElem? (i := 11) (by kernel_rfl)
  | 12, _ => List.mem_of_getElem? (i := 12) (by kernel_rfl)
  | 13, _ => List.mem_of_getElem? (i := 13) (by kernel_rfl)
  | 14, _ => List.mem_of_getElem? (i := 14) (by kernel_rfl)
  | 15, _ => List.mem_of_getElem? (i := 15) (by kernel_rfl)
  | n + 16, h => by omega
theorem known_leastExact {W : World} (h : laidMetH Tryd.prog Rows.leastExactRow.laid W) : ∃ ea, Sent W ea ∧ ErrT W ∧ Arg W (ea 13) := by
  have h' : laidMet Tryd.prog laid_leastExact W ∧ handlesMet Tryd.prog [("errors.errorType", Rows.laid_errors_errorType)] W := h
  obtain ⟨ea, h1, _⟩ := errs_of_laid h'.1 mem_leastExact
  exact ⟨ea, h1, errT_of_laid h'.2, ⟨h1.held 13 (by omega), h1.glo 13 (by omega)⟩⟩
theorem leastExact_met (os : Os) (args : Array Value) : laidMetH Tryd.prog Rows.leastExactRow.laid ((World.doorLaid Tryd.prog 400 os).forCall (fun _ _ => 0) ⟨#[], args, []⟩).memory :=
  laidMetH_of_parts (laidMet_of_run' 8 (by kernel_rfl) (by kernel_rfl)) (by kernel_rfl)
set_option maxRecDepth 100000 in
theorem leastExact_contract {H : Type} {enc : TypeId × Value → H} (F : Stop.Interp) (W : World) (base : Nat) (args : Array Value) (ds gs : List (DataW H)) (before : List MemPlace)
    (hval0 : ∀ (j : Nat) t v, Tryd.f3.params[j]? = some t → args[j]? = some v → Value.okWide Tryd.prog W .any base t v)
    (hW : DataW.Whole enc Tryd.prog Tryd.f3.params.toList (OpenSpec.ofChange Rows.leastExactSpec).vars false W args.toList ds gs before)
    (hsz : (DataW.weightsEach Tryd.prog (Tryd.f3.params.toList ++ (OpenSpec.ofChange Rows.leastExactSpec).bare.plain.varTypes Tryd.prog) (ds ++ gs)).all (· ≤ reachBytes) = true)
    (hL : laidMetH Tryd.prog Rows.leastExactRow.laid W) (hsh : W.ShapedOpen Tryd.prog) :
    Calls Tryd.prog 3 args W fun e W' => ∃ v, e = .returned v ∧ ((OpenSpec.ofChange Rows.leastExactSpec).at F).post enc Tryd.prog Tryd.f3 false true false false W args v W' := by
  have hval : ∀ (j : Nat) t v, Tryd.f3.params[j]? = some t → args[j]? = some v → Value.okWide Tryd.prog W .any base t v := hval0
  have hW' := hW
  obtain ⟨p, q, hA0, hV, rfl, hfz, hnd⟩ := hW
  have hA : DataW.TrodAll enc Tryd.prog W 0 (fun _ => true) true Tryd.f3.params.toList args.toList ds p := hA0
  rw [Tryd.params3] at hA hval
  obtain ⟨v0, d0, rfl, rfl, h0⟩ := trodAll_one hA
  obtain ⟨rfl, rfl⟩ := trodVars_none hV
  have hlt : ∀ x ∈ p, x.block < W.heap.size := fun x hx => hW'.lt x (by simp [hx])
  have hwt : ∀ n ∈ d0.weights Tryd.prog 22, n ≤ reachBytes := fun n hn => by simpa using List.all_eq_true.1 hsz n (DataW.weights_mem_each (j := 0) rfl rfl n hn)
  have _ := hsh; obtain ⟨ea, hSn, hEt, hAg⟩ := known_leastExact hL
  obtain ⟨a0, n0, c0, rfl⟩ := okWide_slice Tryd.underlying22 (hval 0 _ v0 rfl rfl); obtain ⟨a1, c1, L, hv1, _, hd1, hw1⟩ : ∃ a c L, Value.slice a0 n0 c0 = .slice a (L : List Dd).length c ∧ L.length ≤ 140737488355328 ∧ Dls W a L ∧ ∀ d ∈ L, Wee d := (by obtain ⟨fuel, hf⟩ := h0; exact open_denses hf hwt); cases hv1
  refine (exact12_any L a0 c0 ea W hd1 (fun d hd => ⟨(hw1 d hd).1, (hw1 d hd).2.1, (hw1 d hd).2.2⟩) hSn hEt hAg).mono fun e W' ⟨he, hB⟩ => ?_
  subst he
  have e1 : ((OpenSpec.ofChange Rows.leastExactSpec).at F).fn H ([d0] ++ []) = { results := [.lit (.bool true)], args := [d0] } := rfl
  refine ⟨_, rfl, _, _, _, [], p, [], hW', ?_, ?_, ?_, hB.frame _, fun h => by cases h⟩
  · rw [e1]; exact trodAll_mk1 (shut_bool Tryd.underlying4 true)
  · rw [e1]; exact trodAll_mk1 (Below.trod laidOut (by kernel_rfl) (of_decide_eq_true (by kernel_rfl)) h0 hB hlt)
  · rw [e1]; rfl
set_option maxRecDepth 100000 in
theorem leastExact_lifted (os : Os) (started : os.Started) (H : Type) (enc : TypeId × Value → H) (F : Stop.Interp) :
    ReturnsInHanded {} Tryd.checked os 3 .any ((OpenSpec.ofChange Rows.leastExactSpec).preRow enc Tryd.prog Tryd.f3 Rows.leastExactRow.domain false Rows.leastExactRow.laid) (((OpenSpec.ofChange Rows.leastExactSpec).at F).post enc Tryd.prog Tryd.f3 false true false false) := by
  have hx : DataW.whole enc Tryd.prog ((World.doorLaid Tryd.prog 400 os).forCall (fun _ _ => 0) ⟨#[], #[.slice none 0 0], []⟩).memory Tryd.f3.params.toList (OpenSpec.ofChange Rows.leastExactSpec).vars false (#[.slice none 0 0] : Array Value).toList 8 = some ([.nil], [], []) := by kernel_rfl
  refine returnsInHanded_of_row (C := Tryd.checked) (s := OpenSpec.ofChange Rows.leastExactSpec) own started (by kernel_rfl) Tryd.func3
    (witness_row_atRef (enc := enc) (C := Tryd.checked) false (World.doorLaid Tryd.prog 400 os) #[.slice none 0 0] rfl (by kernel_rfl) (by kernel_rfl) (by kernel_rfl)
      (OpenSpec.preRow_of_cond 8 hx (by kernel_rfl) (fun k hk => by cases hk) (by kernel_rfl) (leastExact_met os _))) ?_
  intro W base args ds gs before hval hW _ _ hsz hL hsh _
  exact leastExact_contract F W base args ds gs before hval hW hsz hL hsh
theorem leastExact_row : Rows.LeastExactSaid :=
  OpenClaim.holds_of_cond 3 Tryd.f3 rfl rfl rfl rfl rfl rfl rfl ⟨rfl, rfl, rfl, rfl, rfl⟩ rfl rfl rfl rfl rfl (by kernel_rfl) Tryd.func3 (by kernel_rfl)
    (of_decide_eq_true (by kernel_rfl)) (by unfold Func.isWrapper; rw [if_neg (of_decide_eq_false (by kernel_rfl))]; exact ⟨rfl, rfl⟩)
    (fun os started H enc _ F => by rw [OpenClaim.pre_eq_preRow]; exact leastExact_lifted os started H enc F)
theorem leastExact_holds : Rows.LeastExactCardSaid :=
  Claim7.holds_tied_plain_at .later [] _ _ Rows.leastExactCard.stood.harness Rows.leastExactCard.stood.looks
    leastExact_row (fun _ h => by cases h) (by kernel_rfl) (fun _ h => by cases h) leastExact_row_tie rfl ⟨rfl, rfl⟩ (by kernel_rfl) rfl
    (fun f fn hf hfn => by
      obtain rfl : f = 3 := Option.some.inj ((show Tryd.prog.funcNamed Rows.leastExactRow.func = some 3 by kernel_rfl).symm.trans hf) |>.symm
      obtain rfl : fn = Tryd.f3 := (Option.some.inj (Tryd.func3.symm.trans hfn)).symm
      exact ⟨by kernel_rfl, fun j t ht => by
        rw [Tryd.params3] at ht
        have hm : t ∈ [22] := by simpa using Array.mem_of_getElem? ht
        have hall : ([22].all fun u => !Tryd.prog.wantsStandIn u) = true := by kernel_rfl
        exact (show Tryd.prog.wantsStandIn t = false by simpa using List.all_eq_true.1 hall t hm)⟩)
    (by kernel_rfl)
#print axioms leastExact_holds
end Go.Proofs.YtnnkomdkggepjaaDoor
