/- minimise.Classes. -/
import Derived.Test.YtniamfaiamgncaaDoorPrt
import Derived.Test.YtniamfaiamgncaaDoorTak
import Derived.Deep.LoopGhost
import Derived.Test.YtniamfaiamgncaaDoorChm
namespace Go.Proofs.YtniamfaiamgncaaDoor
open Go Go.RowKit
/-- The refiner as it lies: the parting, the worklist, what leads. -/
structure Cs (w : World) (B b mb n : Nat) (v1 v2 v3 v4 vl : Value) (F : List Value) (dl : Nat → Nat → Nat) (p : Pt) (W : List Spl) : Prop where
  pt : PtR w b B n v1 v2 v3 v4 vl (.map (some mb)) F p
  wk : WkW w B vl mb W
  fr : FrmW w (fun g => ¬ Sa v1 v2 v3 v4 vl mb b g) n dl F
theorem Cs.ext {w w' : World} {B b mb n : Nat} {v1 v2 v3 v4 vl : Value} {F : List Value} {dl : Nat → Nat → Nat} {p : Pt} {W : List Spl} (h : Cs w B b mb n v1 v2 v3 v4 vl F dl p W) (hx : Ext w w') : Cs w' B b mb n v1 v2 v3 v4 vl F dl p W :=
  ⟨h.pt.ext hx, h.wk.ext hx, h.fr.fr (Fr.of_ext (S := fun _ => False) hx) (fun _ _ _ q => q)⟩
theorem sa_later {w : World} {v1 v2 v3 v4 vl v4' vl' : Value} {mb b : Nat} (h4 : ∀ g, v4'.ownBlock = some g → v4.ownBlock = some g ∨ w.heap.size ≤ g) (hl : ∀ g, vl'.ownBlock = some g → vl.ownBlock = some g ∨ w.heap.size ≤ g) {k : Nat} (hk : k < w.heap.size) (q : ¬ Sa v1 v2 v3 v4 vl mb b k) : ¬ Sa v1 v2 v3 v4' vl' mb b k := fun h => q (by
  rcases h with (h | h | h | h | h) | (h | h | h)
  · exact .inl (.inl h)
  · exact .inl (.inr (.inl h))
  · exact .inl (.inr (.inr (.inl h)))
  · rcases h4 k h with h | h
    · exact .inl (.inr (.inr (.inr (.inl h))))
    · omega
  · exact .inl (.inr (.inr (.inr (.inr h))))
  · rcases hl k h with h | h
    · exact .inr (.inl h)
    · omega
  · exact .inr (.inr (.inl h))
  · exact .inr (.inr (.inr h)))
theorem cs_part {b B n mb : Nat} {v1 v2 v3 v4 vl v : Value} {F : List Value} {dl : Nat → Nat → Nat} {p : Pt} {W : List Spl} {w : World} {X : List Nat} {Q : Nat → Prop} (h : Cs w B b mb n v1 v2 v3 v4 vl F dl p W) (hc : p.Clean) (hw : Wok p W) (hW : W.length + 256 * (n - p.sp.length) ≤ 256 * n) (hX : Nats Q w v X) (hQ : ∀ k, k < w.heap.size → Q k → ¬ Sp v1 v2 v3 v4 b k) (hl : ∀ s ∈ X, s < n) (hn : X.Nodup) (h0 : 0 < n) (hB : B ≤ w.heap.size) :
    Calls Tryd.prog 105 #[.pointer (some ⟨b, 0, none⟩), v] w fun e w' => e = .returned (.tuple #[]) ∧ ∃ v4' vl', Cs w' B b mb n v1 v2 v3 v4' vl' F dl (p.part W X).1 (p.part W X).2 ∧ Fr (Sa v1 v2 v3 v4 vl mb b) w w' ∧ (∀ k, k < w.heap.size → ¬ Sa v1 v2 v3 v4 vl mb b k → ¬ Sa v1 v2 v3 v4' vl' mb b k) ∧ B ≤ w'.heap.size := by
  have h1 := Pt.few h.pt.ok
  have h2 := (h.pt.ok.ck 0 h0).1
  refine (part_any h.pt h.wk hc hX hQ hl hn h0 (by omega) hw (by omega) hB).mono ?_
  rintro e w' ⟨rfl, v4', vl', a1, a2, a3, a4, a5⟩
  refine ⟨rfl, v4', vl', ⟨a1, a2, ?_⟩, a3, fun k hk q => sa_later a4 a5 hk q, Nat.le_trans hB a3.2.2.2.1⟩
  exact ((h.fr.imp (Q' := fun g => ¬ Sa v1 v2 v3 v4 vl mb b g ∧ ¬ Sa v1 v2 v3 v4' vl' mb b g) (fun k hk q => ⟨q, sa_later a4 a5 hk q⟩)).fr a3 (fun k hk q => q.1)).imp (fun k hk q => q.2)
theorem cs_lead {b B n mb k c : Nat} {v1 v2 v3 v4 vl : Value} {F : List Value} {dl : Nat → Nat → Nat} {p : Pt} {W : List Spl} {w : World} (h : Cs w B b mb n v1 v2 v3 v4 vl F dl p W) (hk : k < p.sp.length) (hc : c < 256) (hl : ∀ s ∈ lead n dl p k c, s < n) (hn : (lead n dl p k c).Nodup) :
    Calls Tryd.prog 107 #[.pointer (some ⟨b, 0, none⟩), .agg #[nv k, nv c]] w fun e w' => ∃ v', e = .returned v' ∧ Nats (fun g => w.heap.size ≤ g) w' v' (lead n dl p k c) ∧ Ext w w' ∧ Cs w' B b mb n v1 v2 v3 v4 vl F dl p W := by
  refine (leading_any h.pt h.fr hk hc (nodup_lt n _ hn hl)).mono ?_
  rintro e w' ⟨v', rfl, ho, hx⟩
  refine ⟨v', rfl, ?_, hx, h.ext hx⟩
  obtain ⟨a, cap, e1, h1, h2, h3⟩ := SlcQ.of_own ho
  refine ⟨a, cap, e1, h1, h2, ?_⟩
  rcases h3 with h3 | ⟨b', o, e2, q, hlt, hh⟩
  · exact .inl h3
  · exact .inr ⟨b', o, e2, q.1, hlt, hh⟩
/-- What take tells and leaves. -/
def CTk (w : World) (B b mb n : Nat) (v1 v2 v3 v4 vl : Value) (F : List Value) (dl : Nat → Nat → Nat) (p : Pt) (W : List Spl) (e : Ending) (w' : World) : Prop :=
  (W = [] ∧ e = .returned (.tuple #[.agg #[.int .i64 0, .int .i64 0], .bool false]) ∧ Ext w w' ∧ Cs w' B b mb n v1 v2 v3 v4 vl F dl p []) ∨
  (∃ W' x, W = W' ++ [x] ∧ e = .returned (.tuple #[spv x, .bool true]) ∧ ∃ vl', Cs w' B b mb n v1 v2 v3 v4 vl' F dl p W' ∧ Fr (Sw vl mb b) w w' ∧ ∀ k, Sa v1 v2 v3 v4 vl' mb b k ↔ Sa v1 v2 v3 v4 vl mb b k)
theorem cs_take {b B n mb : Nat} {v1 v2 v3 v4 vl : Value} {F : List Value} {dl : Nat → Nat → Nat} {p : Pt} {W : List Spl} {w : World} (h : Cs w B b mb n v1 v2 v3 v4 vl F dl p W) (hw : Wok p W) (hW : W.length + 256 * (n - p.sp.length) ≤ 256 * n) :
    Calls Tryd.prog 106 #[.pointer (some ⟨b, 4, none⟩)] w (CTk w B b mb n v1 v2 v3 v4 vl F dl p W) := by
  have h1 := Pt.few h.pt.ok
  have h2 := h.pt.few
  refine (take_any h.pt.blk h.wk hw.nd (fun x hx => by have := hw.ok x hx; omega) (by omega)).mono ?_
  rintro e w' (⟨rfl, rfl, hx⟩ | ⟨W', x, rfl, rfl, vl', hb, hk, hf, hvl⟩)
  · exact .inl ⟨rfl, rfl, hx, h.ext hx⟩
  · have hsa : ∀ k, Sa v1 v2 v3 v4 vl' mb b k ↔ Sa v1 v2 v3 v4 vl mb b k := fun k => by unfold Sa Sw; rw [hvl]
    refine .inr ⟨W', x, rfl, rfl, vl', ⟨⟨hb, h.pt.pt.fr hf ?_ ?_ ?_ ?_, h.pt.ok, h.pt.few, h.pt.lo⟩, hk, ?_⟩, hf, hsa⟩
    · exact fun k q => pt_not_sw h.pt h.wk k (.inl q)
    · exact fun k q => pt_not_sw h.pt h.wk k (.inr (.inl q))
    · exact fun k q => pt_not_sw h.pt h.wk k (.inr (.inr (.inl q)))
    · exact fun k q => pt_not_sw h.pt h.wk k (.inr (.inr (.inr q)))
    · exact (h.fr.fr hf (fun k hk q q2 => q (.inr q2))).imp (fun k hk q q2 => q ((hsa k).1 q2))
end Go.Proofs.YtniamfaiamgncaaDoor
namespace Go.Proofs.YtniamfaiamgncaaDoor
open Go Go.RowKit
/-- The parts of the refiner, as they are made. -/
def Rwh (B n : Nat) (v : Value) (w : World) : Prop := ∃ v1 v2 v3 v4, v = .agg #[v1, v2, v3, v4] ∧ PtW w B v1 v2 v3 v4 (Pt.whole n)
def Rmp (B : Nat) (v : Value) (w : World) : Prop := ∃ mb, v = .map (some mb) ∧ MapAt Tryd.prog 176 w mb 0 (fun _ => none) ∧ B ≤ mb
def Ral (B : Nat) (v : Value) (w : World) : Prop := ∃ b, v = .pointer (some ⟨b, 0, none⟩) ∧ Blk w b Tryd.zeroCells173 173 ∧ B ≤ b
def Nin (u : Value) (g : Nat) : Prop := ∀ v1 v2 v3 v4, u = .agg #[v1, v2, v3, v4] → v1.ownBlock ≠ some g ∧ v2.ownBlock ≠ some g ∧ v3.ownBlock ≠ some g ∧ v4.ownBlock ≠ some g
def Rfm (B n : Nat) (dl : Nat → Nat → Nat) (u v : Value) (w : World) : Prop := ∃ F, v = .agg F.toArray ∧ FrmW w (fun g => (B ≤ g ∧ Nin u g) ∧ Cb w g) n dl F
theorem Rwh_ext (B n : Nat) : G.Mono Ext (Rwh B n) := fun _ _ _ hx ⟨v1, v2, v3, v4, e, h⟩ => ⟨v1, v2, v3, v4, e, h.ext hx⟩
theorem Rmp_ext (B : Nat) : G.Mono Ext (Rmp B) := fun _ _ _ hx ⟨mb, e, h, h2⟩ => ⟨mb, e, h.blk (hx.block mb h.lt), h2⟩
theorem Ral_ext (B : Nat) : G.Mono Ext (Ral B) := fun _ _ _ hx ⟨b, e, h, h2⟩ => ⟨b, e, h.ext hx, h2⟩
theorem Rfm_ext (B n : Nat) (dl : Nat → Nat → Nat) (u : Value) : G.Mono Ext (Rfm B n dl u) := fun _ _ _ hx ⟨F, e, h⟩ => ⟨F, e, h.frC (Fr.of_ext (S := fun _ => False) hx) (fun _ _ _ q => q)⟩
theorem PtW.mono {w : World} {B B' : Nat} {v1 v2 v3 v4 : Value} {p : Pt} (h : PtW w B v1 v2 v3 v4 p) (hb : B' ≤ B) : PtW w B' v1 v2 v3 v4 p := ⟨h.o1.mono hb, h.o2.mono hb, h.o3.mono hb, h.o4.mono hb, h.d12, h.d13, h.d23⟩
theorem info_ref : (Tryd.prog.info? 173).map (·.size) = some 262 := by kernel_rfl
theorem zero_ref : Tryd.zeroCells173.size = 262 := by kernel_rfl
theorem wpList_build3 {P : Program} {ops : Array Oper} {rest : List Oper} {o : Oper} {a : Act} {w : World} {Q : Exit → Act → World → Prop} (hg : o.guard = none) (t : TypeId) (x y z : Operand) (ho : o.op = .build t #[(0, x), (1, y), (2, z)])
    (X Y Z : Value) (hx : a.eval x = X) (hy : a.eval y = Y) (hz : a.eval z = Z) (cells : Array Value) (hc : P.built t [(0, X), (1, Y), (2, Z)] = some cells) (h : wpList P ops Q rest (a.put o.dst (.agg cells)) w) : wpList P ops Q (o :: rest) a w := by
  have e : ((#[(0, x), (1, y), (2, z)] : Array (Nat × Operand)).map fun (i, x) => (i, a.eval x)).toList = [(0, X), (1, Y), (2, Z)] := by simp [hx, hy, hz]
  exact wpList_build hg t _ ho (by rw [e, hc]; rfl) (by rw [e, hc]; exact h)
theorem own_one {w : World} {B e sz n : Nat} {v : Value} {xs : List Value} (h : w.ownsRow B e sz v n xs) : v.oneCell' = true := by
  obtain ⟨a, c, rfl⟩ := own_shp h; rfl
theorem rfb_all {w : World} {B n mb : Nat} {v1 v2 v3 v4 : Value} {p : Pt} {F : List Value} {Q : Nat → Prop} {dl : Nat → Nat → Nat} (h : PtW w B v1 v2 v3 v4 p) (hf : FrmW w Q n dl F) : (rfb v1 v2 v3 v4 nilS (.map (some mb)) F).all (·.oneCell') = true := by
  unfold rfb
  rw [List.all_toArray]
  refine List.all_eq_true.2 (fun x hx => ?_)
  simp only [List.mem_cons] at hx
  rcases hx with rfl | rfl | rfl | rfl | rfl | rfl | hx
  · exact own_one h.o1
  · exact own_one h.o2
  · exact own_one h.o3
  · exact own_one h.o4
  · rfl
  · rfl
  · obtain ⟨j, hj, rfl⟩ := List.getElem_of_mem hx
    have hl := hf.len
    obtain ⟨g, cp, e, _⟩ := hf.row j (by omega)
    rw [getD_get hj] at e
    rw [e]; rfl
/-- The refiner, when all its parts are made. -/
theorem cs_made {w : World} {B b mb n : Nat} {v1 v2 v3 v4 : Value} {F : List Value} {dl : Nat → Nat → Nat} {c : Array Value} (hn : 0 < n) (h6 : n ≤ 600) (h1 : PtW w B v1 v2 v3 v4 (Pt.whole n)) (hm : MapAt Tryd.prog 176 w mb 0 (fun _ => none)) (hmb : B ≤ mb)
    (hf : FrmW w (fun g => (B ≤ g ∧ Nin (.agg #[v1, v2, v3, v4]) g) ∧ Cb w g) n dl F) (hb : Blk w b c 173) (hbB : B ≤ b) :
    Cs (w.setRow b (rfb v1 v2 v3 v4 nilS (.map (some mb)) F)) B b mb n v1 v2 v3 v4 nilS F dl (Pt.whole n) [] := by
  have hfr : Fr (fun g => g = b) w (w.setRow b (rfb v1 v2 v3 v4 nilS (.map (some mb)) F)) := ⟨rfl, rfl, rfl, by simp, fun k _ hk => setRow_other _ _ _ _ hk⟩
  have hne := map_ne_blk hm hb
  refine ⟨⟨setRow_heap _ _ _ _ _ _ hb, h1.fr hfr ?_ ?_ ?_ ?_, (Pt.whole_ok hn).1, h6, hbB⟩, ⟨own_nil _ _ _ _, ⟨0, MapAt.congr (hm.blk (hfr.2.2.2.2 mb hm.lt hne)) (fun v => ?_)⟩, hmb⟩, ?_⟩
  · exact fun k q e => own_ne_blk h1.o1 hb (by decide) (by rw [q, e])
  · exact fun k q e => own_ne_blk h1.o2 hb (by decide) (by rw [q, e])
  · exact fun k q e => own_ne_blk h1.o3 hb (by decide) (by rw [q, e])
  · exact fun k q e => own_ne_blk h1.o4 hb (by decide) (by rw [q, e])
  · unfold wtf; split <;> (try split) <;> simp
  · refine ((hf.imp (Q' := fun g => ¬ Sa v1 v2 v3 v4 nilS mb b g) (fun k hk q => ?_)).fr hfr (fun k hk q e => q (.inr (.inr (.inr e)))))
    obtain ⟨⟨q1, q2⟩, q3⟩ := q
    obtain ⟨a1, a2, a3, a4⟩ := q2 _ _ _ _ rfl
    have a5 := q3.ne_blk hb (by decide) (by decide)
    have a6 := q3.ne_map hm
    rintro ((h | h | h | h | h) | (h | h | h))
    · exact a1 h
    · exact a2 h
    · exact a3 h
    · exact a4 h
    · exact a5 h
    · cases h
    · exact a6 h
    · exact a5 h
/-- All that the refiner writes lies from B on. -/
theorem Cs.lo {w : World} {B b mb n : Nat} {v1 v2 v3 v4 vl : Value} {F : List Value} {dl : Nat → Nat → Nat} {p : Pt} {W : List Spl} (h : Cs w B b mb n v1 v2 v3 v4 vl F dl p W) : ∀ k, Sa v1 v2 v3 v4 vl mb b k → B ≤ k := fun k q => by
  rcases q with (q | q | q | q | q) | (q | q | q)
  · exact (h.pt.pt.o1.lt k q).1
  · exact (h.pt.pt.o2.lt k q).1
  · exact (h.pt.pt.o3.lt k q).1
  · exact (h.pt.pt.o4.lt k q).1
  · have := h.pt.lo; omega
  · exact (h.wk.own.lt k q).1
  · have := h.wk.lo; omega
  · have := h.pt.lo; omega
/-- The refiner at work. -/
def Stt (w wr : World) (B b mb n : Nat) (v1 v2 v3 v4 vl : Value) (F : List Value) (dl : Nat → Nat → Nat) (lab : Nat → Int) (p : Pt) (W X : List Spl) : Prop :=
  Cs wr B b mb n v1 v2 v3 v4 vl F dl p W ∧ HI n dl lab p (W ++ X) ∧ (W ++ X).length + 256 * (n - p.sp.length) ≤ 256 * n ∧ Ext w wr ∧ w.heap.size ≤ B ∧ B ≤ wr.heap.size
/-- A group's list. -/
def Ing (lv : Value) (vs : List Value) (m g : Nat) : Prop := lv.ownBlock = some g ∨ ∃ t, t < m ∧ (vs.getD t nilS).ownBlock = some g
/-- While the groups are parted. -/
def Lab1 (w wr : World) (B b mb n : Nat) (v1 v2 v3 : Value) (F : List Value) (dl : Nat → Nat → Nat) (L : List Int) (K : List Int) (lv : Value) (vs : List Value) (Bg k : Nat) : Prop :=
  ∃ v4 vl p W, Stt w wr B b mb n v1 v2 v3 v4 vl F dl (fun s => L.getD s 0) p W [] ∧ GrI wr Bg L n K lv vs ∧ (∀ g, Ing lv vs K.length g → ¬ Sa v1 v2 v3 v4 vl mb b g) ∧
    ∀ s t, s < n → t < n → p.C s = p.C t → ∀ j, j < k → (s ∈ grpK L n (K.getD j 0) ↔ t ∈ grpK L n (K.getD j 0))
theorem beq_lab {dl : Nat → Nat → Nat} {lab : Nat → Int} {s t : Nat} (h : Beq (behA dl lab s) (behA dl lab t)) : lab s = lab t := h [] (fun _ q => nomatch q)
theorem mem_grp {L : List Int} {n s : Nat} {x : Int} : s ∈ grpK L n x ↔ s < n ∧ L.getD s 0 = x := by simp [grpK]
theorem GrI.lt {w : World} {Bg n : Nat} {L K : List Int} {lv : Value} {vs : List Value} (h : GrI w Bg L n K lv vs) {g : Nat} (hg : Ing lv vs K.length g) : Bg ≤ g ∧ g < w.heap.size := by
  rcases hg with hg | ⟨t, ht, hg⟩
  · exact h.row.lt g hg
  · exact (h.ent t ht).lt g hg
theorem nats_own {w : World} {B : Nat} {v : Value} {L : List Nat} (h : w.ownsRow B 3 1 v L.length (L.map nv)) : Nats (fun g => v.ownBlock = some g) w v L :=
  (SlcQ.of_own h).imp (fun _ _ q => q.2)
theorem lab1_step {w wr : World} {B b mb n : Nat} {v1 v2 v3 : Value} {F : List Value} {dl : Nat → Nat → Nat} {L K : List Int} {lv : Value} {vs : List Value} {Bg k : Nat} (h : Lab1 w wr B b mb n v1 v2 v3 F dl L K lv vs Bg k) (hk : k < K.length) (h0 : 0 < n) (hto : ∀ s c, s < n → c < 256 → dl s c < n) :
    Calls Tryd.prog 105 #[.pointer (some ⟨b, 0, none⟩), vs.getD k nilS] wr fun e w' => e = .returned (.tuple #[]) ∧ Lab1 w w' B b mb n v1 v2 v3 F dl L K lv vs Bg (k + 1) := by
  obtain ⟨v4, vl, p, W, ⟨hC, hI, hM, hE, hB0, hB⟩, hG, hS, hL⟩ := h
  rw [List.append_nil] at hI hM
  have hlt : ∀ s ∈ grpK L n (K.getD k 0), s < n := fun s hs => (mem_grp.1 hs).1
  have hnd : (grpK L n (K.getD k 0)).Nodup := List.Pairwise.filter _ List.nodup_range
  have hq : ∀ s t, s < n → t < n → Beq (behA dl (fun s => L.getD s 0) s) (behA dl (fun s => L.getD s 0) t) → (s ∈ grpK L n (K.getD k 0) ↔ t ∈ grpK L n (K.getD k 0)) := fun s t hs ht e => by
    have e : L.getD s 0 = L.getD t 0 := beq_lab e
    rw [mem_grp, mem_grp, e]
    exact ⟨fun q => ⟨ht, q.2⟩, fun q => ⟨hs, q.2⟩⟩
  obtain ⟨i1, i2, i3⟩ := hI.part hto hlt hnd hq
  refine (cs_part hC hI.cln hI.wok hM (nats_own (hG.ent k hk)) (fun g _ q q2 => hS g (.inr ⟨k, hk, q⟩) (.inl q2)) hlt hnd h0 hB).mono ?_
  rintro e w' ⟨rfl, v4', vl', c1, c2, c3, c4⟩
  refine ⟨rfl, v4', vl', _, _, ⟨c1, by rw [List.append_nil]; exact i1, by rw [List.append_nil, i3]; exact hM, Below.trans hE (c2.below hE.size (fun k hk q => by have := hC.lo k q; omega)), hB0, c4⟩, hG.fr c2 (fun g q => hS g (.inl q)) (fun t ht g q => hS g (.inr ⟨t, ht, q⟩)), fun g q => c3 g (hG.lt q).2 (hS g q), fun s t hs ht e j hj => ?_⟩
  obtain ⟨e1, e2⟩ := i2 s t hs ht e
  rcases Nat.lt_or_ge j k with q | q
  · exact hL s t hs ht e1 j q
  · obtain rfl : j = k := by omega
    exact e2
end Go.Proofs.YtniamfaiamgncaaDoor
namespace Go.Proofs.YtniamfaiamgncaaDoor
open Go Go.RowKit
section
variable {w wr : World} {B b mb n g : Nat} {v1 v2 v3 : Value} {F : List Value} {dl : Nat → Nat → Nat} {lab : Nat → Int} {X : List Spl}
/-- What lies in block z is none of the refiner's. -/
def Off (wr : World) (b mb n : Nat) (v1 v2 v3 v4 vl : Value) (F : List Value) (dl : Nat → Nat → Nat) (z : Nat) : Prop :=
  ¬ Sa v1 v2 v3 v4 vl mb b z ∧ FrmW wr (fun g => ¬ Sa v1 v2 v3 v4 vl mb b g ∧ g ≠ z) n dl F
theorem Off.fresh {v4 vl : Value} {p : Pt} {W : List Spl} (h : Cs wr B b mb n v1 v2 v3 v4 vl F dl p W) : Off wr b mb n v1 v2 v3 v4 vl F dl wr.heap.size := by
  refine ⟨fun q => ?_, h.fr.imp (fun k hk q => ⟨q, by omega⟩)⟩
  rcases q with q | q | q | q
  · exact absurd (h.pt.lt _ q) (by omega)
  · exact absurd (h.wk.own.lt _ q).2 (by omega)
  · have := h.wk.lt; omega
  · have := h.pt.blk.lt; omega
theorem Off.ext {wr' : World} {v4 vl : Value} {z : Nat} (h : Off wr b mb n v1 v2 v3 v4 vl F dl z) (hx : Ext wr wr') : Off wr' b mb n v1 v2 v3 v4 vl F dl z :=
  ⟨h.1, h.2.fr (Fr.of_ext (S := fun _ => False) hx) (fun _ _ _ q => q)⟩
/-- The refiner, its classes of one label each; X is taken. -/
def Lop (w wr : World) (B b mb n : Nat) (v1 v2 v3 : Value) (F : List Value) (dl : Nat → Nat → Nat) (lab : Nat → Int) (X : List Spl) (z g : Nat) : Prop :=
  ∃ v4 vl p W, Stt w wr B b mb n v1 v2 v3 v4 vl F dl lab p W X ∧ (∀ s t, s < n → t < n → p.C s = p.C t → lab s = lab t) ∧ W.length + X.length + 256 * (n - p.sp.length) = g ∧ Off wr b mb n v1 v2 v3 v4 vl F dl z
theorem Lop.ext {wr' : World} {z : Nat} (h : Lop w wr B b mb n v1 v2 v3 F dl lab X z g) (hx : Ext wr wr') : Lop w wr' B b mb n v1 v2 v3 F dl lab X z g := by
  obtain ⟨v4, vl, p, W, ⟨a1, a2, a3, a4, a5, a6⟩, hl, hg, hz⟩ := h
  exact ⟨v4, vl, p, W, ⟨a1.ext hx, a2, a3, bel_call a4 hx, a5, Nat.le_trans a6 hx.size⟩, hl, hg, hz.ext hx⟩
theorem Lop.fresh {z : Nat} (h : Lop w wr B b mb n v1 v2 v3 F dl lab X z g) : Lop w wr B b mb n v1 v2 v3 F dl lab X wr.heap.size g := by
  obtain ⟨v4, vl, p, W, hs, hl, hg, hz⟩ := h
  exact ⟨v4, vl, p, W, hs, hl, hg, Off.fresh hs.1⟩
theorem Cs.frz {wr' : World} {v4 vl : Value} {p : Pt} {W : List Spl} {z : Nat} (h : Cs wr B b mb n v1 v2 v3 v4 vl F dl p W) (hz : Off wr b mb n v1 v2 v3 v4 vl F dl z) (hx : Fr (fun g => g = z) wr wr') : Cs wr' B b mb n v1 v2 v3 v4 vl F dl p W ∧ Off wr' b mb n v1 v2 v3 v4 vl F dl z :=
  ⟨⟨h.pt.fr hx (fun k q e => hz.1 (by subst e; exact .inl q)), h.wk.fr hx (fun k q e => hz.1 (by subst e; exact .inr (.inl q))) (fun e => hz.1 (by subst e; exact .inr (.inr (.inl rfl)))), (hz.2.fr hx (fun k _ q => q.2)).imp (fun k _ q => q.1)⟩, hz.1, hz.2.fr hx (fun k _ q => q.2)⟩
theorem Lop.frz {wr' : World} {z : Nat} (h : Lop w wr B b mb n v1 v2 v3 F dl lab X z g) (hx : Fr (fun g => g = z) wr wr') (hz : w.heap.size ≤ z) : Lop w wr' B b mb n v1 v2 v3 F dl lab X z g := by
  obtain ⟨v4, vl, p, W, ⟨a1, a2, a3, a4, a5, a6⟩, hl, hg, ho⟩ := h
  obtain ⟨c1, c2⟩ := a1.frz ho hx
  exact ⟨v4, vl, p, W, ⟨c1, a2, a3, Below.trans a4 (hx.below a4.size (fun k hk q => by omega)), a5, Nat.le_trans a6 hx.2.2.2.1⟩, hl, hg, c2⟩
/-- There is nothing left to part. -/
def Lod (w wr : World) (B b mb n : Nat) (v1 v2 v3 : Value) (F : List Value) (dl : Nat → Nat → Nat) (lab : Nat → Int) (z : Nat) : Prop :=
  ∃ v4 vl p, Stt w wr B b mb n v1 v2 v3 v4 vl F dl lab p [] [] ∧ (∀ s t, s < n → t < n → p.C s = p.C t → lab s = lab t) ∧ Off wr b mb n v1 v2 v3 v4 vl F dl z
theorem Lod.ext {wr' : World} {z : Nat} (h : Lod w wr B b mb n v1 v2 v3 F dl lab z) (hx : Ext wr wr') : Lod w wr' B b mb n v1 v2 v3 F dl lab z := by
  obtain ⟨v4, vl, p, ⟨a1, a2, a3, a4, a5, a6⟩, hl, hz⟩ := h
  exact ⟨v4, vl, p, ⟨a1.ext hx, a2, a3, bel_call a4 hx, a5, Nat.le_trans a6 hx.size⟩, hl, hz.ext hx⟩
theorem Lod.fresh {z : Nat} (h : Lod w wr B b mb n v1 v2 v3 F dl lab z) : Lod w wr B b mb n v1 v2 v3 F dl lab wr.heap.size := by
  obtain ⟨v4, vl, p, hs, hl, hz⟩ := h
  exact ⟨v4, vl, p, hs, hl, Off.fresh hs.1⟩
theorem Lod.frz {wr' : World} {z : Nat} (h : Lod w wr B b mb n v1 v2 v3 F dl lab z) (hx : Fr (fun g => g = z) wr wr') (hz : w.heap.size ≤ z) : Lod w wr' B b mb n v1 v2 v3 F dl lab z := by
  obtain ⟨v4, vl, p, ⟨a1, a2, a3, a4, a5, a6⟩, hl, ho⟩ := h
  obtain ⟨c1, c2⟩ := a1.frz ho hx
  exact ⟨v4, vl, p, ⟨c1, a2, a3, Below.trans a4 (hx.below a4.size (fun k hk q => by omega)), a5, Nat.le_trans a6 hx.2.2.2.1⟩, hl, c2⟩
/-- What the worklist told last. -/
def Lof (w wr : World) (B b mb n : Nat) (v1 v2 v3 : Value) (F : List Value) (dl : Nat → Nat → Nat) (lab : Nat → Int) (fl : Bool) (k c z g : Nat) : Prop :=
  match fl with
  | true => Lop w wr B b mb n v1 v2 v3 F dl lab [(k, c)] z g
  | false => Lod w wr B b mb n v1 v2 v3 F dl lab z
theorem Lof.ext {wr' : World} {fl : Bool} {k c z : Nat} (h : Lof w wr B b mb n v1 v2 v3 F dl lab fl k c z g) (hx : Ext wr wr') : Lof w wr' B b mb n v1 v2 v3 F dl lab fl k c z g := by
  cases fl
  · exact Lod.ext h hx
  · exact Lop.ext h hx
theorem Lof.fresh {fl : Bool} {k c z : Nat} (h : Lof w wr B b mb n v1 v2 v3 F dl lab fl k c z g) : Lof w wr B b mb n v1 v2 v3 F dl lab fl k c wr.heap.size g := by
  cases fl
  · exact Lod.fresh h
  · exact Lop.fresh h
theorem Lof.frz {wr' : World} {fl : Bool} {k c z : Nat} (h : Lof w wr B b mb n v1 v2 v3 F dl lab fl k c z g) (hx : Fr (fun g => g = z) wr wr') (hz : w.heap.size ≤ z) : Lof w wr' B b mb n v1 v2 v3 F dl lab fl k c z g := by
  cases fl
  · exact Lod.frz h hx hz
  · exact Lop.frz h hx hz
theorem Lof.ext_of {fl : Bool} {k c z : Nat} (h : Lof w wr B b mb n v1 v2 v3 F dl lab fl k c z g) : Ext w wr := by
  cases fl
  · obtain ⟨_, _, _, hs, _⟩ := h; exact hs.2.2.2.1
  · obtain ⟨_, _, _, _, hs, _⟩ := h; exact hs.2.2.2.1
theorem lop_take {z : Nat} (h : Lop w wr B b mb n v1 v2 v3 F dl lab [] z g) :
    Calls Tryd.prog 106 #[.pointer (some ⟨b, 4, none⟩)] wr fun e w' =>
      ∃ k c fl, e = .returned (.tuple #[.agg #[nv k, nv c], .bool fl]) ∧ Lof w w' B b mb n v1 v2 v3 F dl lab fl k c z g ∧ (∀ vs t, Blk wr z vs t → Blk w' z vs t) ∧ wr.heap.size ≤ w'.heap.size := by
  obtain ⟨v4, vl, p, W, ⟨hC, hI, hM, hE, hB0, hB⟩, hL, hg, hz⟩ := h
  rw [List.append_nil] at hI hM
  refine (cs_take hC hI.wok hM).mono ?_
  rintro e w' (⟨rfl, rfl, hx, hc⟩ | ⟨W', ⟨k, c⟩, rfl, rfl, vl', hc, hf, hsa⟩)
  · exact ⟨0, 0, false, rfl, ⟨v4, vl, p, ⟨hc, hI, hM, bel_call hE hx, hB0, Nat.le_trans hB hx.size⟩, hL, hz.ext hx⟩, fun vs t q => q.ext hx, hx.size⟩
  · refine ⟨k, c, true, rfl, ⟨v4, vl', p, W', ⟨hc, hI, hM, Below.trans hE (hf.below hE.size (fun k hk q => by have := hC.lo k (.inr q); omega)), hB0, Nat.le_trans hB hf.2.2.2.1⟩, hL, ?_, fun q => hz.1 ((hsa z).1 q), ?_⟩, fun vs t q => hf.blk q (fun q2 => hz.1 (.inr q2)), hf.2.2.2.1⟩
    · rw [← hg]; simp
    · exact (hz.2.fr hf (fun k hk q q2 => q.1 (.inr q2))).imp (fun k hk q => ⟨fun q2 => q.1 ((hsa k).1 q2), q.2⟩)
/-- What leads is told. -/
def Led (w wr : World) (B b mb n : Nat) (v1 v2 v3 : Value) (F : List Value) (dl : Nat → Nat → Nat) (lab : Nat → Int) (k c : Nat) (v : Value) (z g : Nat) : Prop :=
  ∃ v4 vl p W Q, Stt w wr B b mb n v1 v2 v3 v4 vl F dl lab p W [(k, c)] ∧ (∀ s t, s < n → t < n → p.C s = p.C t → lab s = lab t) ∧ W.length + 1 + 256 * (n - p.sp.length) = g ∧
    Nats Q wr v (lead n dl p k c) ∧ (∀ j, j < wr.heap.size → Q j → ¬ Sp v1 v2 v3 v4 b j) ∧ ¬ Sa v1 v2 v3 v4 vl mb b z
theorem lop_lead {k c z : Nat} (h : Lop w wr B b mb n v1 v2 v3 F dl lab [(k, c)] z g) (hto : ∀ s c, s < n → c < 256 → dl s c < n) :
    Calls Tryd.prog 107 #[.pointer (some ⟨b, 0, none⟩), .agg #[nv k, nv c]] wr fun e w' => ∃ v', e = .returned v' ∧ Led w w' B b mb n v1 v2 v3 F dl lab k c v' z g ∧ Ext wr w' := by
  obtain ⟨v4, vl, p, W, ⟨hC, hI, hM, hE, hB0, hB⟩, hL, hg, hz⟩ := h
  obtain ⟨i1, i2, i3, i4, _⟩ := hI.take hto
  refine (cs_lead hC i1 i2 i3 i4).mono ?_
  rintro e w' ⟨v', rfl, hn, hx, hc⟩
  exact ⟨v', rfl, ⟨v4, vl, p, W, _, ⟨hc, hI, hM, bel_call hE hx, hB0, Nat.le_trans hB hx.size⟩, hL, hg, hn, fun j _ q q2 => (by have := hC.pt.lt j q2; omega), hz.1⟩, hx⟩
theorem lop_part {k c z : Nat} {v : Value} (h : Led w wr B b mb n v1 v2 v3 F dl lab k c v z g) (h0 : 0 < n) (hto : ∀ s c, s < n → c < 256 → dl s c < n) :
    Calls Tryd.prog 105 #[.pointer (some ⟨b, 0, none⟩), v] wr fun e w' => e = .returned (.tuple #[]) ∧ (∃ g', g' < g ∧ Lop w w' B b mb n v1 v2 v3 F dl lab [] w'.heap.size g') ∧ (∀ vs t, Blk wr z vs t → Blk w' z vs t) ∧ wr.heap.size ≤ w'.heap.size := by
  obtain ⟨v4, vl, p, W, Q, ⟨hC, hI, hM, hE, hB0, hB⟩, hL, hg, hn, hq, hz⟩ := h
  obtain ⟨i1, i2, i3, i4, i5, i6, i7⟩ := hI.take hto
  have hw : Wok p W := ⟨(List.nodup_append.1 hI.wok.nd).1, fun x hx => hI.wok.ok x (by simp [hx])⟩
  have hM' : W.length + 1 + 256 * (n - p.sp.length) ≤ 256 * n := by simpa using hM
  refine (cs_part hC hI.cln hw (by omega) hn hq i3 i4 h0 hB).mono ?_
  rintro e w' ⟨rfl, v4', vl', c1, c2, c3, c4⟩
  refine ⟨rfl, ⟨W.length + 256 * (n - p.sp.length), by omega, v4', vl', _, _, ⟨c1, by rw [List.append_nil]; exact i5, by rw [List.append_nil, i7]; omega, Below.trans hE (c2.below hE.size (fun k hk q => by have := hC.lo k q; omega)), hB0, c4⟩, fun s t hs ht e => hL s t hs ht (i6 s t hs ht e), ?_, Off.fresh c1⟩, fun vs t q => c2.blk q hz, c2.2.2.2.1⟩
  rw [List.length_nil, Nat.add_zero, i7]
theorem lod_cls {z : Nat} (h : Lod w wr B b mb n v1 v2 v3 F dl lab z) (hto : ∀ s c, s < n → c < 256 → dl s c < n) : ∃ L : List Int, L.length = n ∧ Ints wr v3 L ∧ wr.cell? ⟨b, 2, none⟩ = some v3 ∧ ClsOk n (fun i k => Beq (behA dl lab i) (behA dl lab k)) (ren L) ∧ Ext w wr := by
  obtain ⟨v4, vl, p, ⟨hC, hI, hM, hE, hB0, hB⟩, hL, _⟩ := h
  have h6 := hC.pt.few
  have hs := Pt.few hC.pt.ok
  have hl := hC.pt.ok.lc
  have hd := hI.done hto hL
  have hg : ∀ i, i < n → (p.cl.map (fun x : Nat => (x : Int))).getD i 0 = (p.C i : Int) := fun i hi => by
    unfold Pt.C
    rw [getD_get (by rw [List.length_map]; omega), getD_get (by omega), List.getElem_map]
  refine ⟨p.cl.map (fun x : Nat => (x : Int)), by rw [List.length_map]; exact hl, ⟨?_, fun x hx => ?_⟩, (rfb_cells hC.pt.blk).2.2.1, ren_cls (by rw [List.length_map]; exact hl) (fun i k hi hk => ?_), hE⟩
  · have := Slc.of_own hC.pt.pt.o3 (by omega)
    rw [List.length_map, List.map_map]
    exact this
  · obtain ⟨y, hy, rfl⟩ := List.mem_map.1 hx
    obtain ⟨i, hi, rfl⟩ := List.getElem_of_mem hy
    have := (hC.pt.ok.ck i (by omega)).1
    have e : p.C i = p.cl[i] := by unfold Pt.C; rw [getD_get hi]
    omega
  · rw [hg i hi, hg k hk, ← hd i k hi hk]
    omega
end
end Go.Proofs.YtniamfaiamgncaaDoor
namespace Go.Proofs.YtniamfaiamgncaaDoor
open Go Go.RowKit
theorem ren_small {L : List Int} (h : L.length ≤ 600) : ∀ x ∈ ren L, 0 ≤ x ∧ x ≤ 600 := fun x hx => by
  unfold ren at hx
  obtain ⟨y, _, rfl⟩ := List.mem_map.1 hx
  have h1 := List.idxOf_le_length (l := L.foldl nad []) (a := y)
  have h2 := nums_len L []
  rw [List.length_nil] at h2
  omega
set_option maxHeartbeats 8000000 in
set_option maxRecDepth 20000 in
theorem classesof_any (d : Dd) (v : Value) (w : World) (hd : d.Ok) (h : Dns w v d) :
    Calls Tryd.prog 63 #[v] w fun e w' => ∃ v' c, e = .returned v' ∧ w'.ownsRow w.heap.size 3 1 v' c.length (c.map iv) ∧ ClsOk d.nx.length (fun i k => Beq (d.beh i) (d.beh k)) c ∧ (∀ x ∈ c, 0 ≤ x ∧ x ≤ 600) ∧ Ext w w' := by
  obtain ⟨a, b', rfl, h1, h2⟩ := h
  obtain ⟨n, hn⟩ : ∃ n, d.nx.length = n := ⟨_, rfl⟩
  have hm : d.lb.length = n := by rw [hd.lbl, hn]
  have h0 := hd.pos
  have h6 := hd.le
  rw [hn] at h0 h6 ⊢
  have HEB := Lib.hid (ext_box w #[a, b'] 25)
  have H1 := Lib.hid (h1.ext HEB.out)
  have H2 := Lib.hid (h2.ext HEB.out)
  have HBX := Lib.hid (Blk.new w #[a, b'] 25)
  have HBS : (w.alloc (.cells #[a, b'] 25)).heap.size = w.heap.size + 1 := by simp
  have HD := Lib.hid hd
  have HN := Lib.hid hn
  have HM := Lib.hid hm
  obtain ⟨p, cap, rfl, _⟩ := h1.shape
  obtain ⟨p2, cap2, rfl, _⟩ := h2.shape
  rw [hn] at H1 HBX HEB H2 HBS ⊢
  have hmm := @run_makeMap Tryd.prog
  clear h1 h2 hd hn hm
  go_enter Tryd.func63, Tryd.ntmps63
  go_upto_region 1 with fail
  generalize w.alloc (.cells #[.slice p n cap, .slice p2 d.lb.length cap2] 25) = w0 at *
  refine Y.wp_region_tail (G := Ext) (RsY 3 4 10 8 (Rwh w0.heap.size n) (Rmp w0.heap.size) (Ral w0.heap.size) (some (.tmp 11)) (Rfm w0.heap.size n d.to)) 11 (by kernel_rfl) (by kernel_rfl) (RsY_mono (Rwh_ext _ _) (Rmp_ext _) (Ral_ext _) (Rfm_ext _ _ _)) (fun hex => ?_)
  simp only [List.take_succ_cons, List.take_zero, List.drop_succ_cons, List.drop_zero]
  iterate 3
    (refine Y.wpS_one (A := ?_) hex rfl rfl (by simp) ?_ ?_ ?_
     rotate_left 2
     · intro w' hC K hK
       have z0 := (HBX.out.ext hC.1).cell 0
       go_wp2_with (fail)
       refine hK _ ?_
       first | exact Below.refl _ _ | exact bel_call (Below.refl _ _) (by assumption) | assumption | (repeat' (first | (with_reducible exact Below.refl _ _) | (with_reducible assumption) | (with_reducible refine below_drewN ?_ _) | (with_reducible refine Below.alloc ?_ ?_ _) | (with_reducible refine Below.drew ?_) | (with_reducible refine Below.setCell ?_ ?_ _) | (with_reducible refine Below.trans ?_ (Below.mono (by with_reducible assumption) ?_)) | go_size))
     rotate_left 1
     · rfl
     clear hex; intro hex)
  refine Y.wpS_rel none (fun _ => Rwh w0.heap.size n) rfl (fun _ h => nomatch h) rfl (by simp) (by first | rfl | (simp [Region.wanted, yielded]; done)) ?_ ?_
  · intro w' hC K hK
    simp only [Act.put, List.setIfInBounds_toArray, List.set_cons_succ, List.set_cons_zero] at hK
    go_wp2_with fail
    refine (whole_any n w' h6).mono ?_
    rintro e w1 ⟨v1, v2, v3, v4, rfl, hp, hx⟩
    go_wp2_with fail
    exact hK _ _ hx ⟨_, _, _, _, rfl, hp.mono hC.1.size⟩
  clear hex
  intro v w' hex hv
  replace hex := Exists.intro w' hex
  obtain ⟨v1, v2, v3, v4, rfl, hv⟩ := hv
  clear hv
  simp only [Act.put, List.setIfInBounds_toArray, List.set_cons_succ, List.set_cons_zero]
  refine Y.wpS_rel none (fun _ => Rmp w0.heap.size) rfl (fun _ h => nomatch h) rfl (by simp) (by first | rfl | (simp [Region.wanted, yielded]; done)) ?_ ?_
  · intro w' hC K hK
    simp only [Act.put, List.setIfInBounds_toArray, List.set_cons_succ, List.set_cons_zero] at hK
    go_wp2_with fail
    exact hK _ _ (by go_grown) ⟨_, rfl, MapAt.made _ _ _, hC.1.size⟩
  clear hex
  intro v w' hex hv
  replace hex := Exists.intro w' hex
  obtain ⟨mb, rfl, hv⟩ := hv
  clear hv
  simp only [Act.put, List.setIfInBounds_toArray, List.set_cons_succ, List.set_cons_zero]
  iterate 3
    (refine Y.wpS_one (A := ?_) hex rfl rfl (by simp) ?_ ?_ ?_
     rotate_left 2
     · intro w' hC K hK
       have z0 := (HBX.out.ext hC.1).cell 0
       go_wp2_with (fail)
       refine hK _ ?_
       first | exact Below.refl _ _ | exact bel_call (Below.refl _ _) (by assumption) | assumption | (repeat' (first | (with_reducible exact Below.refl _ _) | (with_reducible assumption) | (with_reducible refine below_drewN ?_ _) | (with_reducible refine Below.alloc ?_ ?_ _) | (with_reducible refine Below.drew ?_) | (with_reducible refine Below.setCell ?_ ?_ _) | (with_reducible refine Below.trans ?_ (Below.mono (by with_reducible assumption) ?_)) | go_size))
     rotate_left 1
     · rfl
     clear hex; intro hex)
  refine Y.wpS_rel (some (.tmp 11)) (Rfm w0.heap.size n d.to) rfl (fun y h => by cases h; exact .inr (wtd_of (by kernel_rfl))) rfl (by simp) (by first | rfl | (simp [Region.wanted, yielded]; done)) ?_ ?_
  · intro w' hC K hK
    simp only [Act.put, List.setIfInBounds_toArray, List.set_cons_succ, List.set_cons_zero] at hK
    obtain ⟨x1, x2, x3, x4, ex, hp⟩ := (hC.2 3 (by simp [Region.binds])).2.1 rfl
    cases ex
    go_wp2_with fail
    refine (sources_any d _ w' HD.out (H1.out.ext hC.1)).mono ?_
    rintro e w1 ⟨F, rfl, hf, hx⟩
    go_wp2_with fail
    rw [HN.out] at hf
    refine hK _ _ hx ⟨F, rfl, hf.imp (fun k hk q => ⟨⟨Nat.le_trans hC.1.size q.1, fun y1 y2 y3 y4 ey => ?_⟩, q.2⟩)⟩
    cases ey
    exact ⟨fun z => by have := (hp.o1.lt k z).2; omega, fun z => by have := (hp.o2.lt k z).2; omega, fun z => by have := (hp.o3.lt k z).2; omega, fun z => by have := (hp.o4.lt k z).2; omega⟩
  clear hex
  intro v w' hex hv
  replace hex := Exists.intro w' hex
  obtain ⟨F, rfl, hv⟩ := hv
  have HFL := hv.len
  clear hv
  simp only [Act.put, List.setIfInBounds_toArray, List.set_cons_succ, List.set_cons_zero]
  refine Y.wpS_one (A := ?_) hex rfl rfl (by simp) ?_ ?_ ?_
  rotate_left 2
  · intro w' hC K hK
    refine wpList_build3 rfl 173 (.tmp 11) (.tmp 13) (.tmp 16) rfl _ _ _ rfl rfl rfl _ (built_ref v1 v2 v3 v4 nilS (.map (some mb)) F HFL) ?_
    simp only [wpList, Act.put, List.setIfInBounds_toArray, List.set_cons_succ, List.set_cons_zero]
    refine hK _ ?_
    exact Below.refl _ _
  rotate_left 1
  · rfl
  clear hex; intro hex
  refine Y.wpS_rel none (fun _ => Ral w0.heap.size) rfl (fun _ h => nomatch h) rfl (by simp) (by first | rfl | (simp [Region.wanted, yielded]; done)) ?_ ?_
  · intro w' hC K hK
    try simp only [Act.put, List.setIfInBounds_toArray, List.set_cons_succ, List.set_cons_zero] at hK
    go_wp2_with fail
    exact hK _ _ (by go_grown) ⟨_, rfl, Blk.new _ _ _, hC.1.size⟩
  clear hex
  intro v w' hex hv
  replace hex := Exists.intro w' hex
  obtain ⟨b, rfl, hv⟩ := hv
  clear hv
  simp only [Act.put, List.setIfInBounds_toArray, List.set_cons_succ, List.set_cons_zero]
  refine Y.wpS_nil fun w1 hAll => ?_
  obtain ⟨b1, eb, hb, hbB⟩ := (hAll.2 10).1 rfl
  cases eb
  obtain ⟨F1, eF, hF⟩ := (hAll.2 8).2.1 rfl
  obtain ⟨mb1, em, hm, hmB⟩ := (hAll.2 4).2.2.1 rfl
  cases em
  obtain ⟨x1, x2, x3, x4, ex, hp⟩ := (hAll.2 3).2.2.2.1 rfl
  cases ex
  have eF : F = F1 := by have := Value.agg.inj eF; exact List.toArray_inj this
  subst eF
  refine wpList_store_row rfl 173 (.tmp 3) (.tmp 17) rfl b (rfb v1 v2 v3 v4 nilS (.map (some mb)) F) rfl rfl 173 _ hb (by rw [rfb_len, HFL]; exact info_ref) (by rw [rfb_len, HFL]; exact zero_ref) (rfb_all hp hF) ?_
  have CS := Lib.hid (cs_made h0 h6 hp hm hmB hF hb hbB)
  have FB := Lib.hid (show Fr (fun g => g = b) w1 (w1.setRow b (rfb v1 v2 v3 v4 nilS (.map (some mb)) F)) from ⟨rfl, rfl, rfl, by simp, fun k _ hk => setRow_other _ _ _ _ hk⟩)
  have hE01 := hAll.1
  have EX := Lib.hid (show Ext w (w1.setRow b (rfb v1 v2 v3 v4 nilS (.map (some mb)) F)) from bel_call HEB.out (Below.trans hE01 (FB.out.below hE01.size (fun k hk e => by omega))))
  have EX0 := Lib.hid (show Ext w0 (w1.setRow b (rfb v1 v2 v3 v4 nilS (.map (some mb)) F)) from (Below.trans hE01 (FB.out.below hE01.size (fun k hk e => by omega))))
  generalize w1.setRow b (rfb v1 v2 v3 v4 nilS (.map (some mb)) F) = w2 at *
  clear FB hE01 hAll hb hF hm hp hex hbB hmB HFL eF hmm
  simp only [Act.put]
  go_upto_region 2 with fail
  have HB2 := (HBX.out.ext EX0.out).cell 1
  have HLL := labelled_any d.lb _ w2 (H2.out.ext EX0.out) (by have := HM.out; omega)
  simp only [show d.lb.length = n from HM.out] at HLL HB2 H2 ⊢
  have HLL := Lib.hid HLL
  go_wp2_with fail
  refine HLL.out.mono ?_
  rintro e w3 ⟨lv, vs, rfl, hG, hx3⟩
  obtain ⟨K, hK⟩ : ∃ K, d.lb.foldl nad [] = K := ⟨_, rfl⟩
  have hKp : 0 < K.length := by
    have hm : d.lb.getD 0 0 ∈ K := by
      rw [← hK, nums_mem]
      exact .inr (by rw [getD_get (by have := HM.out; omega)]; exact List.getElem_mem _)
    exact List.length_pos_of_mem hm
  rw [hK] at hG
  obtain ⟨ga, cl, rfl, hcl, _, hga, hmx⟩ := own_some hG.row hKp
  have hto : ∀ s c, s < n → c < 256 → d.to s c < n := fun s c hs hc => by
    have := HD.out.to (s := s) (c := c) (by rw [HN.out]; exact hs) hc
    rw [HN.out] at this; exact this
  have HTO := Lib.hid hto
  have HKK := Lib.hid hK
  have hKl : K.length ≤ 600 := by
    have h1 := nums_len d.lb []
    rw [hK, HM.out, List.length_nil] at h1; omega
  have L0 := Lib.hid (show Lab1 w w3 w0.heap.size b mb n v1 v2 v3 F d.to d.lb K (.slice (some ⟨ga, 0, none⟩) K.length cl) vs w2.heap.size 0 from
    ⟨v4, nilS, Pt.whole n, [], ⟨CS.out.ext hx3, HI.whole h0 _ _, by rw [List.append_nil]; simp [Pt.whole]; omega, bel_call EX.out hx3, by omega, Nat.le_trans EX0.out.size hx3.size⟩, hG, fun g q q2 => by
      have h1 := (hG.lt q).1
      have h2 : g < w2.heap.size := by
        rcases q2 with q2 | q2 | q2 | q2
        · exact CS.out.pt.lt g q2
        · cases q2
        · have := CS.out.wk.lt; omega
        · have := CS.out.pt.blk.lt; omega
      omega, fun s t _ _ _ j hj => absurd hj (by omega)⟩)
  clear hG hK hto CS HLL HB2
  go_wp2_with fail
  go_loopw [22] (fun i wr => ∃ k : Nat, k ≤ K.length ∧ i = .int .i64 k ∧ Hid (Lab1 w wr w0.heap.size b mb n v1 v2 v3 F d.to d.lb K (.slice (some ⟨ga, 0, none⟩) K.length cl) vs w2.heap.size k)) (fun i _ => K.length - (intOf i).toNat)
  case atStart => exact ⟨0, Nat.zero_le _, rfl, L0⟩
  case round =>
    obtain ⟨k, hk, rfl, hL⟩ := hrel
    by_cases hkl : k < K.length
    · obtain ⟨v4', vl', p', W', _, hG, _⟩ := hL.out
      have hvl := hG.row.1
      obtain ⟨ag, cg, hgs⟩ := own_shp (hG.ent k hkl)
      have z1 := hG.row.cellAt k (by omega)
      rw [List.getElem?_eq_getElem (by omega), ← getD_get (d := nilS) (by omega)] at z1
      have HP := Lib.hid (lab1_step hL.out hkl h0 HTO.out)
      rw [hgs] at z1 HP
      generalize (grpK d.lb n (K.getD k 0)).length = gl at z1 HP
      clear hG hL hgs hvl
      go_wp2_with fail
      refine HP.out.mono ?_
      rintro e w5 ⟨rfl, hL5⟩
      have hL5 := Lib.hid hL5
      go_wp2_with fail
      go_roundw
      case rel => exact ⟨k + 1, by omega, by go_num, hL5⟩
      case measure => simp [intOf]; omega
    · obtain rfl : k = K.length := by omega
      obtain ⟨v4', vl', p', W', hS, hG, _, hL4⟩ := hL.out
      have LP := Lib.hid (show Lop w wr w0.heap.size b mb n v1 v2 v3 F d.to d.lab [] wr.heap.size (W'.length + 0 + 256 * (n - p'.sp.length)) from ⟨v4', vl', p', W', hS, fun s t hs ht e => by
        have hin : d.lb.getD s 0 ∈ K := by
          rw [← HKK.out, nums_mem]
          exact .inr (by rw [getD_get (by have := HM.out; omega)]; exact List.getElem_mem _)
        obtain ⟨j, hj, ej⟩ := List.getElem_of_mem hin
        have h1 := (hL4 s t hs ht e j hj).1 (mem_grp.2 ⟨hs, by rw [getD_get hj, ej]⟩)
        have h2 := (mem_grp.1 h1).2
        rw [getD_get hj, ej] at h2
        exact h2.symm, rfl, Off.fresh hS.1⟩)
      generalize W'.length + 0 + 256 * (n - p'.sp.length) = g0 at LP
      clear hS hG hL4 hL
      have TK := Lib.hid (lop_take LP.out)
      go_wp2_with fail
      refine TK.out.mono ?_
      rintro e w4 ⟨k, c, fl, rfl, hF, _, hsz4⟩
      have hE4 := Lib.hid (hF.ext_of)
      go_wp2_with fail
      have hx6 := ext_box w4 #[.int .i64 (k : Int), .int .i64 (c : Int)] 176
      have B6 := Lib.hid (Blk.new w4 #[.int .i64 (k : Int), .int .i64 (c : Int)] 176)
      have L6 := Lib.hid ((hF.fresh).ext hx6)
      have hc6 : w.heap.size ≤ w4.heap.size := hE4.out.size
      generalize w4.alloc (.cells #[.int .i64 (k : Int), .int .i64 (c : Int)] 176) = w6 at *
      generalize w4.heap.size = c6 at *
      clear hF TK LP hx6 hE4
      go_loopg [6, 7] g0 (fun gk s6 s7 wr => ∃ (fl : Bool) (k c c6 : Nat), s6 = .pointer (some ⟨c6, 0, none⟩) ∧ s7 = .bool fl ∧ w.heap.size ≤ c6 ∧ Hid (Blk wr c6 #[.int .i64 (k : Int), .int .i64 (c : Int)] 176) ∧ Hid (Lof w wr w0.heap.size b mb n v1 v2 v3 F d.to d.lab fl k c c6 gk))
      case atStart => exact ⟨fl, k, c, c6, rfl, rfl, hc6, B6, L6⟩
      case round =>
        clear B6 L6
        obtain ⟨fl, k, c, c6, rfl, rfl, hc6, HB6, HL6⟩ := hrel
        cases fl
        · obtain ⟨L, hLl, hI, hc2, hcls, hx⟩ := lod_cls (show Lod w wr w0.heap.size b mb n v1 v2 v3 F d.to d.lab c6 from HL6.out) HTO.out
          have HI := Lib.hid hI
          have HCL := Lib.hid hcls
          have HRB := Lib.hid (ren_small (L := L) (by omega))
          have HX := Lib.hid hx
          obtain ⟨a3, cp3, rfl, _⟩ := hI.shape
          rw [hLl] at hc2 HI
          have RN := ren_any L _ wr HI.out (by omega)
          rw [hLl] at RN
          have RN := Lib.hid RN
          clear hI hcls hx HL6 HB6
          go_wp2_with fail
          refine RN.out.mono ?_
          rintro e w7 ⟨v', rfl, ho, hx7⟩
          go_wp2_with fail
          go_ret
          refine ⟨v', ren L, rfl, ?_, HCL.out, HRB.out, bel_call HX.out hx7⟩
          rw [HCL.out.len]
          exact ho.mono HX.out.size
        · have hb6 := HB6.out
          have y0 := hb6.cell 0
          have y1 := hb6.cell 1
          have LD := Lib.hid (lop_lead (show Lop w wr w0.heap.size b mb n v1 v2 v3 F d.to d.lab [(k, c)] c6 gk from HL6.out) HTO.out)
          clear hb6
          go_wp2_with fail
          refine LD.out.mono ?_
          rintro e w7 ⟨v', rfl, hled, hx7⟩
          have PT := Lib.hid (lop_part hled h0 HTO.out)
          have HB7 := Lib.hid (HB6.out.ext hx7)
          have y0 := HB7.out.cell 0
          have y1 := HB7.out.cell 1
          clear LD hled hx7 HB6 HL6
          go_wp2_with fail
          refine PT.out.mono ?_
          rintro e w8 ⟨rfl, ⟨g', hg', hl8⟩, hbk, hsz8⟩
          have y0 := (hbk _ _ HB7.out).cell 0
          have y1 := (hbk _ _ HB7.out).cell 1
          have TK := Lib.hid (lop_take (hl8.ext (ext_box w8 #[.int .i64 (k : Int), .int .i64 (c : Int)] 176)))
          have hE8 : w.heap.size ≤ w8.heap.size := by
            obtain ⟨_, _, _, _, hs, _⟩ := hl8
            exact hs.2.2.2.1.size
          have B8 := Lib.hid (Blk.new w8 #[.int .i64 (k : Int), .int .i64 (c : Int)] 176)
          clear PT HB7 hl8 hbk
          go_wp2_with fail
          refine TK.out.mono ?_
          rintro e w9 ⟨k', c', fl', rfl, hF9, hbk9, hsz9⟩
          have hb9 := hbk9 _ _ B8.out
          have f0 := hb9.free 0
          have z0 := hb9.cell 0
          have hlt9 := hb9.lt
          generalize w8.heap.size = c8 at *
          have z1 := (hb9.set 0 (.int .i64 (k' : Int))).cell 1
          have f1 := (hb9.set 0 (.int .i64 (k' : Int))).free 1
          have B10 := Lib.hid ((hb9.set 0 (nv k')).set 1 (nv c'))
          have L10 := Lib.hid (hF9.frz (((Fr.refl (fun g => g = c8) w9).set (b := c8) (i := 0) (.inl rfl) (nv k')).set (b := c8) (i := 1) (.inl rfl) (nv c')) hE8)
          clear TK B8 hF9 hbk9 hb9
          go_wp2_with fail
          go_roundg g'
          case rel => exact ⟨fl', k', c', c8, rfl, rfl, hE8, B10, L10⟩
          case measure => exact hg'
end Go.Proofs.YtniamfaiamgncaaDoor
namespace Go.Proofs.YtniamfaiamgncaaDoor
open Go Go.RowKit
set_option maxHeartbeats 2000000 in
set_option maxRecDepth 20000 in
theorem classes_ok (d : Dd) (v : Value) (w : World) (hd : d.Ok) (h : Dns w v d) :
    Calls Tryd.prog 28 #[v] w fun e w' => ∃ v' c, e = .returned (.tuple #[v', .nilIface]) ∧ w'.ownsRow w.heap.size 3 1 v' c.length (c.map iv) ∧ ClsOk d.nx.length (fun i k => Beq (d.beh i) (d.beh k)) c ∧ (∀ x ∈ c, 0 ≤ x ∧ x ≤ 600) ∧ Ext w w' := by
  have hb := okB_ok.2 hd
  obtain ⟨a, b, rfl, h1, h2⟩ := h
  have HE := Lib.hid (ext_box w #[a, b] 25)
  have h0 : Dns w (.agg #[a, b]) d := ⟨a, b, rfl, h1, h2⟩
  have HD := Lib.hid (h0.ext HE.out)
  have HO := Lib.hid hd
  obtain ⟨p, cap, rfl, _⟩ := h1.shape
  obtain ⟨p2, cap2, rfl, _⟩ := h2.shape
  have C1 := checkd_any d _ _ HD.out
  rw [hb] at C1
  have C1 := Lib.hid C1
  have HBX := Lib.hid (Blk.new w #[.slice p d.nx.length cap, .slice p2 d.lb.length cap2] 25)
  clear h0 h1 h2 hd hb
  go_enter Tryd.func28, Tryd.ntmps28
  go_wp2_with fail
  refine C1.out.mono ?_; rintro e w1 ⟨rfl, E1⟩
  have hA := (HBX.out.ext E1).cell 0
  have hB := (HBX.out.ext E1).cell 1
  have HC := Lib.hid (classesof_any d _ w1 HO.out (HD.out.ext E1))
  have E1 := Lib.hid E1
  go_wp2_with fail
  refine HC.out.mono ?_; rintro e w2 ⟨v', c, rfl, ho, hc, hcb, E2⟩
  go_wp2_with fail
  go_ret2
  exact ⟨v', c, rfl, ho.mono (Nat.le_trans HE.out.size E1.out.size), hc, hcb, bel_call HE.out (bel_call E1.out E2)⟩
end Go.Proofs.YtniamfaiamgncaaDoor
