/- What an error tells. -/
import Derived.Test.YtnnkomdkggepjaaDoorTxt
import Derived.Test.YtnnkomdkggepjaaDoorOut
namespace Go.Proofs.YtnnkomdkggepjaaDoor
open Go Go.RowKit
/-- A wrapper: a place, names, a rule, a stage. -/
inductive Wr where
  | place (n : Int)
  | names (l : List ByteArray)
  | rule (n : Int)
  | stage (n : Int)
def Wr.ty : Wr → TypeId
  | .place _ => 82
  | .names _ => 88
  | .rule _ => 93
  | .stage _ => 97
def Wr.holds (w : World) : Wr → Value → Prop
  | .place n, x => x = .int .i64 n
  | .names l, x => Texts w x l
  | .rule n, x => x = .int .i64 n
  | .stage n, x => x = .int .i64 n
def Wraps (w : World) : List Wr → List (TypeId × Value) → Prop
  | [], [] => True
  | k :: K, (T, x) :: L => T = k.ty ∧ k.holds w x ∧ Wraps w K L
  | _, _ => False
theorem Wr.holds_ext {w w' : World} (hx : Ext w w') {k : Wr} {x : Value} (h : k.holds w x) : k.holds w' x := by
  cases k with
  | names l => exact Texts.ext h hx
  | _ => exact h
theorem Wraps.ext {w w' : World} (hx : Ext w w') : ∀ {K : List Wr} {L : List (TypeId × Value)}, Wraps w K L → Wraps w' K L
  | [], [], _ => trivial
  | [], _ :: _, h => h.elim
  | _ :: _, [], h => h.elim
  | _ :: _, (_, _) :: _, ⟨h1, h2, h3⟩ => ⟨h1, Wr.holds_ext hx h2, Wraps.ext hx h3⟩
def tAt : List Wr → Int
  | [] => 0
  | .place n :: _ => n
  | _ :: K => tAt K
def tRule : List Wr → Int
  | [] => 0
  | .rule n :: _ => n
  | _ :: K => tRule K
def tStage : List Wr → Int
  | [] => 0
  | .stage n :: _ => n
  | _ :: K => tStage K
def tNames : List Wr → List ByteArray
  | [] => []
  | .names l :: _ => l
  | _ :: K => tNames K
/-- What was found says t. -/
def IntAt (t : Int) : Option (TypeId × Value) → Prop
  | none => t = 0
  | some q => q.2 = .int .i64 t
def TxtAt (w : World) (l : List ByteArray) : Option (TypeId × Value) → Prop
  | none => l = []
  | some q => Texts w q.2 l
theorem TxtAt.ext {w w' : World} {l : List ByteArray} {o : Option (TypeId × Value)} (h : TxtAt w l o) (hx : Ext w w') : TxtAt w' l o := by
  cases o with
  | none => exact h
  | some q => exact Texts.ext h hx
theorem own_sett {w : World} {base e sz n : Nat} {v : Value} {xs : List Value} (h : w.ownsRow base e sz v n xs) {a : Addr} (ha : a.block < base) (u : Value) : (w.setCell a u).ownsRow base e sz v n xs := by
  obtain ⟨h1, h2 | ⟨g, cap, cur, hv, hg, hh, rest⟩⟩ := h
  · exact ⟨h1, .inl h2⟩
  · exact ⟨h1, .inr ⟨g, cap, cur, hv, hg, by rw [Below.heap_setCell _ _ _ _ (by omega)]; exact hh, rest⟩⟩
/-- Texts that lie beyond block b. -/
def Txw (b : Nat) (w : World) (v : Value) (l : List ByteArray) : Prop := Texts w v l ∧ ∀ a n c, v = .slice (some a) n c → b < a.block
theorem Txw.ext {b : Nat} {w w' : World} {v : Value} {l : List ByteArray} (h : Txw b w v l) (hx : Ext w w') : Txw b w' v l := ⟨h.1.ext hx, h.2⟩
theorem Txw.nil (b : Nat) (w : World) : Txw b w (.slice none 0 0) [] := ⟨Texts.nil w, fun a n c h => by cases h⟩
theorem Txw.of_own {b base : Nat} {w : World} {v : Value} {l : List ByteArray} (h : w.ownsRow base 9 1 v l.length (l.map Value.string)) (hb : b < base) (hn : l.length ≤ 8796093022207) : Txw b w v l := by
  refine ⟨Texts.of_own h hn, fun a n c hv => ?_⟩
  subst hv
  have := (h.lt a.block (by
    obtain ⟨_, ⟨h1, _⟩ | ⟨g, cap, cur, h1, _⟩⟩ := h
    · cases h1
    · cases h1; rfl)).1
  omega
theorem Txw.set {b : Nat} {w : World} {v : Value} {l : List ByteArray} (h : Txw b w v l) (u : Value) (j : Nat) : Txw b (w.setCell ⟨b, j, none⟩ u) v l := by
  obtain ⟨⟨h1, h2⟩, h3⟩ := h
  refine ⟨⟨h1, ?_⟩, h3⟩
  rcases h2 with h2 | ⟨a, cap, rfl, h4, h5, h6⟩
  · exact .inl h2
  · refine .inr ⟨a, cap, rfl, h4, h5, ?_⟩
    have hb := h3 _ _ _ rfl
    rcases h6 with h6 | ⟨c, o, rfl, h7, h8⟩
    · exact .inl h6
    · have hne : c ≠ b := by have : b < c := hb; omega
      refine .inr ⟨c, o, rfl, by simpa [World.setCell] using h7, fun i hi => ?_⟩
      rw [← h8 i hi]
      unfold World.cell?
      rw [Below.heap_setCell _ _ _ _ hne]
theorem Txw.mono {b b' : Nat} {w : World} {v : Value} {l : List ByteArray} (h : Txw b w v l) (hb : b' ≤ b) : Txw b' w v l := ⟨h.1, fun a n c hv => Nat.lt_of_le_of_lt hb (h.2 a n c hv)⟩
theorem find_at {w : World} : ∀ {K : List Wr} {L : List (TypeId × Value)}, Wraps w K L → IntAt (tAt K) (L.find? fun q => q.1 == 82)
  | [], [], _ => rfl
  | [], _ :: _, h => h.elim
  | _ :: _, [], h => h.elim
  | k :: K, (T, x) :: L, ⟨h1, h2, h3⟩ => by
    have ih := find_at h3
    subst h1
    cases k <;> first | exact h2 | (rw [List.find?_cons_of_neg (by simp [Wr.ty])]; exact ih) | (rw [List.find?_cons_of_pos (by simp [Wr.ty])]; exact h2)
theorem find_rule {w : World} : ∀ {K : List Wr} {L : List (TypeId × Value)}, Wraps w K L → IntAt (tRule K) (L.find? fun q => q.1 == 93)
  | [], [], _ => rfl
  | [], _ :: _, h => h.elim
  | _ :: _, [], h => h.elim
  | k :: K, (T, x) :: L, ⟨h1, h2, h3⟩ => by
    have ih := find_rule h3
    subst h1
    cases k <;> first | exact h2 | (rw [List.find?_cons_of_neg (by simp [Wr.ty])]; exact ih) | (rw [List.find?_cons_of_pos (by simp [Wr.ty])]; exact h2)
theorem find_stage {w : World} : ∀ {K : List Wr} {L : List (TypeId × Value)}, Wraps w K L → IntAt (tStage K) (L.find? fun q => q.1 == 97)
  | [], [], _ => rfl
  | [], _ :: _, h => h.elim
  | _ :: _, [], h => h.elim
  | k :: K, (T, x) :: L, ⟨h1, h2, h3⟩ => by
    have ih := find_stage h3
    subst h1
    cases k <;> first | exact h2 | (rw [List.find?_cons_of_neg (by simp [Wr.ty])]; exact ih) | (rw [List.find?_cons_of_pos (by simp [Wr.ty])]; exact h2)
theorem find_names {w : World} : ∀ {K : List Wr} {L : List (TypeId × Value)}, Wraps w K L → TxtAt w (tNames K) (L.find? fun q => q.1 == 88)
  | [], [], _ => rfl
  | [], _ :: _, h => h.elim
  | _ :: _, [], h => h.elim
  | k :: K, (T, x) :: L, ⟨h1, h2, h3⟩ => by
    have ih := find_names h3
    subst h1
    cases k <;> first | exact h2 | (rw [List.find?_cons_of_neg (by simp [Wr.ty])]; exact ih) | (rw [List.find?_cons_of_pos (by simp [Wr.ty])]; exact h2)
theorem found_int {w : World} {r : Value} {o : Option (TypeId × Value)} {t : Int} (hf : Found w r o) (h : IntAt t o) :
    (r = .pointer none ∧ t = 0) ∨ ∃ p y tt, r = .pointer (some ⟨p, 0, none⟩) ∧ Blk w p #[y, .int .i64 t] tt := by
  cases o with
  | none => exact .inl ⟨hf, h⟩
  | some q =>
    obtain ⟨p, y, tt, h1, h2⟩ := hf
    rw [show q.2 = .int .i64 t from h] at h2
    exact .inr ⟨p, y, tt, h1, h2⟩
theorem found_names {w : World} {r : Value} {o : Option (TypeId × Value)} {l : List ByteArray} (hf : Found w r o) (h : TxtAt w l o) :
    (r = .pointer none ∧ l = []) ∨ ∃ p y tt x, r = .pointer (some ⟨p, 0, none⟩) ∧ Blk w p #[y, x] tt ∧ Texts w x l := by
  cases o with
  | none => exact .inl ⟨hf, h⟩
  | some q =>
    obtain ⟨p, y, tt, h1, h2⟩ := hf
    exact .inr ⟨p, y, tt, q.2, h1, h2, h⟩
/-- errors.As knows the type 'error'. -/
def ErrT (w : World) : Prop := w.cell? ⟨16, 0, none⟩ = some (.iface 140 (.agg #[.pointer (some ⟨17, 36, none⟩)]))
theorem ErrT.ext {w w' : World} (h : ErrT w) (hx : Ext w w') : ErrT w' := by
  have hgl : 16 < w.heap.size := by
    rcases Nat.lt_or_ge 16 w.heap.size with h1 | h1
    · exact h1
    · unfold ErrT at h
      simp [World.cell?, Array.getElem?_eq_none h1] at h
  unfold ErrT
  rw [hx.cell (p := ⟨16, 0, none⟩) hgl]
  exact h
/-- What is known of a fault that is told. -/
def Fault (w : World) (v : Value) (c s r t : Int) (l : List ByteArray) : Prop := ∃ ns, v = .agg #[.int .i64 c, .int .i64 s, .int .i64 r, .int .i64 t, ns] ∧ Texts w ns l
theorem Fault.ext {w w' : World} {v : Value} {c s r t : Int} {l : List ByteArray} (h : Fault w v c s r t l) (hx : Ext w w') : Fault w' v c s r t l := by
  obtain ⟨ns, h1, h2⟩ := h
  exact ⟨ns, h1, h2.ext hx⟩
set_option maxHeartbeats 4000000 in
set_option maxRecDepth 20000 in
theorem tell_is (ea : Nat → Addr) (a : Addr) (K : List Wr) (L : List (TypeId × Value)) (v : Value) (w : World) (hS : Sent w ea) (hG : ErrT w) (hL : Chain w L v (errAt a)) (hW : Wraps w K L) (ha : ∃ c t, w.heap[a.block]? = some (.cells c t (0, 0))) :
    Calls Tryd.prog 24 #[v] w fun e w' => ∃ f, e = .returned f ∧ Fault w' f (codeAt ea a 16 0) (tStage K) (tRule K) (tAt K) (tNames K) ∧ Below w.heap.size w w' := by
  have hP := find_at hW
  have hR := find_rule hW
  have hT := find_stage hW
  have hN := find_names hW
  obtain ⟨c, hc⟩ : ∃ c, codeAt ea a 16 0 = c := ⟨_, rfl⟩
  have hE0 : Ext w (w.alloc (.cells #[.int .i64 0, .int .i64 0, .int .i64 0, .int .i64 0, .slice none 0 0] 30)) := by go_grown
  obtain ⟨ca, ta, ha⟩ := ha
  have hcode := code_is ea a L v _ (hS.ext hE0) (hL.ext hE0) ⟨ca, ta, by rw [hE0.block _ (Array.getElem?_eq_some_iff.1 ha).1]; exact ha⟩
  rw [hc] at hcode ⊢
  go_enter Tryd.func24, Tryd.ntmps24
  go_wp2_with fail
  refine hcode.mono ?_
  rintro e w1 ⟨rfl, hb⟩
  have kF := Blk.new w1 #[.int .i64 c, .int .i64 0, .int .i64 0, .int .i64 0, .slice none 0 0] 30
  have kR := ((Blk.new w #[.int .i64 0, .int .i64 0, .int .i64 0, .int .i64 0, .slice none 0 0] 30).ext hb).alloc (.cells #[.int .i64 c, .int .i64 0, .int .i64 0, .int .i64 0, .slice none 0 0] 30)
  have hx := bel_alloc hE0 hb (.cells #[.int .i64 c, .int .i64 0, .int .i64 0, .int .i64 0, .slice none 0 0] 30)
  have hfl : w.heap.size < w1.heap.size := by have := hb.size; simp at this; omega
  go_wp2_with fail
  clear hcode hE0
  refine (out_P L v a _ (hG.ext hx) (hL.ext hx) _ rfl).mono ?_
  rintro e w3 ⟨r, rfl, hE, hf⟩
  replace hx := bel_call hx hE
  replace kF := kF.ext hE
  replace kR := kR.ext hE
  skip
  rcases found_int (t := tAt K) hf hP with ⟨rfl, e0⟩ | ⟨p, y, tt, rfl, hk⟩
  focus
    replace kF : Blk w3 w1.heap.size #[.int .i64 c, .int .i64 0, .int .i64 0, .int .i64 (tAt K), .slice none 0 0] 30 := by rw [e0]; exact kF
    go_wp2_with fail
    clear hf e0 hE
    obtain ⟨w4, rfl⟩ : ∃ w4 : World, w4 = w3 := ⟨_, rfl⟩
  rotate_left 1
  focus
    have hl1 := (hk.ext hE).cell 1
    have hf0 := kF.free 3
    have hc0 := kF.cell 3
    go_wp2_with fail
    replace kF : Blk _ w1.heap.size #[.int .i64 c, .int .i64 0, .int .i64 0, .int .i64 (tAt K), .slice none 0 0] 30 := kF.set 3 (.int .i64 (tAt K))
    replace kR := kR.set_other (a := ⟨w1.heap.size, 3, none⟩) (by show w1.heap.size ≠ w.heap.size; omega) (.int .i64 (tAt K))
    replace hx := hx.setCell (p := ⟨w1.heap.size, 3, none⟩) (by show w.heap.size ≤ w1.heap.size; omega) (.int .i64 (tAt K))
    skip
    generalize w3.setCell (⟨w1.heap.size, 3, none⟩ : Addr) (Value.int .i64 (tAt K)) = w4 at *
    clear hl1 hf0 hc0 hk hf hE
  rotate_left 1
  all_goals
    refine (out_N L v a w4 (hG.ext hx) (hL.ext hx) _ rfl).mono ?_
    rintro e w3 ⟨r, rfl, hE, hf⟩
    have hN3 := (hN.ext hx)
    replace hx := bel_call hx hE
    replace kF := kF.ext hE
    replace kR := kR.ext hE
    rcases found_names hf hN3 with ⟨rfl, e0⟩ | ⟨p, y, tt, x2, rfl, hk, hx2⟩
    focus
      go_wp2_with fail
      have hns : Txw w1.heap.size w3 (.slice none 0 0) (tNames K) := by rw [e0]; exact Txw.nil _ _
      clear hf e0 hE hN3
      obtain ⟨w5, rfl⟩ : ∃ w5 : World, w5 = w3 := ⟨_, rfl⟩
      generalize Value.slice none 0 0 = ns at hns kF
    rotate_left 1
    focus
      have hl1 := (hk.ext hE).cell 1
      go_wp2_with fail
      refine (copyof_own x2 (tNames K) w3 (hx2.ext hE)).mono ?_
      rintro e w6 ⟨ns, rfl, hown, hE6⟩
      have hf1 : w1.heap.size < w3.heap.size := kF.lt
      obtain ⟨ao, co, hsl⟩ := own_sl hown
      subst hsl
      replace hx := bel_call hx hE6
      replace kF := kF.ext hE6
      replace kR := kR.ext hE6
      have hns := Txw.of_own hown hf1 hx2.1
      have hf0 := kF.free 4
      have hc0 := kF.cell 4
      go_wp2_with fail
      generalize Value.slice ao (tNames K).length co = ns at *
      replace kF : Blk _ w1.heap.size #[.int .i64 c, .int .i64 0, .int .i64 0, .int .i64 (tAt K), ns] 30 := kF.set 4 (ns)
      replace kR := kR.set_other (a := ⟨w1.heap.size, 4, none⟩) (by show w1.heap.size ≠ w.heap.size; omega) (ns)
      replace hx := hx.setCell (p := ⟨w1.heap.size, 4, none⟩) (by show w.heap.size ≤ w1.heap.size; omega) (ns)
      replace hns := hns.set ns 4
      generalize w6.setCell (⟨w1.heap.size, 4, none⟩ : Addr) ns = w5 at *
      clear hl1 hf0 hc0 hk hf hE hown hf1 hx2 hE6 hN3
    rotate_left 1
  all_goals
    refine (out_R L v a _ (hG.ext hx) (hL.ext hx) _ rfl).mono ?_
    rintro e w3 ⟨r, rfl, hE, hf⟩
    replace hx := bel_call hx hE
    replace kF := kF.ext hE
    replace kR := kR.ext hE
    replace hns := hns.ext hE
    rcases found_int (t := tRule K) hf hR with ⟨rfl, e0⟩ | ⟨p, y, tt, rfl, hk⟩
    focus
      replace kF : Blk w3 w1.heap.size #[.int .i64 c, .int .i64 0, .int .i64 (tRule K), .int .i64 (tAt K), ns] 30 := by rw [e0]; exact kF
      go_wp2_with fail
      clear hf e0 hE
      obtain ⟨w7, rfl⟩ : ∃ w7 : World, w7 = w3 := ⟨_, rfl⟩
    rotate_left 1
    focus
      have hl1 := (hk.ext hE).cell 1
      have hf0 := kF.free 2
      have hc0 := kF.cell 2
      go_wp2_with fail
      replace kF : Blk _ w1.heap.size #[.int .i64 c, .int .i64 0, .int .i64 (tRule K), .int .i64 (tAt K), ns] 30 := kF.set 2 (.int .i64 (tRule K))
      replace kR := kR.set_other (a := ⟨w1.heap.size, 2, none⟩) (by show w1.heap.size ≠ w.heap.size; omega) (.int .i64 (tRule K))
      replace hx := hx.setCell (p := ⟨w1.heap.size, 2, none⟩) (by show w.heap.size ≤ w1.heap.size; omega) (.int .i64 (tRule K))
      replace hns := hns.set (.int .i64 (tRule K)) 2
      generalize w3.setCell (⟨w1.heap.size, 2, none⟩ : Addr) (Value.int .i64 (tRule K)) = w7 at *
      clear hl1 hf0 hc0 hk hf hE
    rotate_left 1
  all_goals
    refine (out_S L v a _ (hG.ext hx) (hL.ext hx) _ rfl).mono ?_
    rintro e w3 ⟨r, rfl, hE, hf⟩
    replace hx := bel_call hx hE
    replace kF := kF.ext hE
    replace kR := kR.ext hE
    replace hns := hns.ext hE
    obtain ⟨ao, co, rfl⟩ := hns.1.slice
    obtain ⟨p0, p1, p2, p3, p4⟩ := kF.cells5
    obtain ⟨q0, q1, q2, q3, q4⟩ := kR.cells5
    have f0 := kR.free 0
    have f1 := kR.free 1
    have f2 := kR.free 2
    have f3 := kR.free 3
    have f4 := kR.free 4
    rcases found_int (t := tStage K) hf hT with ⟨rfl, e0⟩ | ⟨p, y, tt, rfl, hk⟩
    · have hns2 := hns.mono (b' := w.heap.size) (by omega)
      have kZ := ((((kR.set 0 (.int .i64 c)).set 1 (.int .i64 0)).set 2 (.int .i64 (tRule K))).set 3 (.int .i64 (tAt K))).set 4 (.slice ao (tNames K).length co)
      obtain ⟨z0, z1, z2, z3, z4⟩ := kZ.cells5
      clear kF kR hf hE
      go_wp2
      refine bodyPost_ret (v := .agg #[.int .i64 c, .int .i64 0, .int .i64 (tRule K), .int .i64 (tAt K), .slice ao (tNames K).length co]) ?_ rfl ⟨_, rfl, ⟨_, by rw [e0], (((((hns2.set _ 0).set _ 1).set _ 2).set _ 3).set _ 4).1⟩, by (repeat' (first | (with_reducible exact Below.refl _ _) | (with_reducible assumption) | (with_reducible refine below_drewN ?_ _) | (with_reducible refine Below.alloc ?_ ?_ _) | (with_reducible refine Below.drew ?_) | (with_reducible refine Below.setCell ?_ ?_ _) | (with_reducible refine Below.trans ?_ (Below.mono (by with_reducible assumption) ?_)) | go_size))⟩
      simp [results, Tryd.results24, go_sem, z0, z1, z2, z3, z4]
    · have hl1 := (hk.ext hE).cell 1
      have hf0 := kF.free 1
      have hne : w1.heap.size ≠ w.heap.size := by omega
      have hns2 := (hns.set (.int .i64 (tStage K)) 1).mono (b' := w.heap.size) (by omega)
      have kZ := (((((kR.set_other (a := ⟨w1.heap.size, 1, none⟩) hne (.int .i64 (tStage K))).set 0 (.int .i64 c)).set 1 (.int .i64 (tStage K))).set 2 (.int .i64 (tRule K))).set 3 (.int .i64 (tAt K))).set 4 (.slice ao (tNames K).length co)
      obtain ⟨z0, z1, z2, z3, z4⟩ := kZ.cells5
      clear kF kR hf hE
      go_wp2
      refine bodyPost_ret (v := .agg #[.int .i64 c, .int .i64 (tStage K), .int .i64 (tRule K), .int .i64 (tAt K), .slice ao (tNames K).length co]) ?_ rfl ⟨_, rfl, ⟨_, rfl, (((((hns2.set _ 0).set _ 1).set _ 2).set _ 3).set _ 4).1⟩, by (repeat' (first | (with_reducible exact Below.refl _ _) | (with_reducible assumption) | (with_reducible refine below_drewN ?_ _) | (with_reducible refine Below.alloc ?_ ?_ _) | (with_reducible refine Below.drew ?_) | (with_reducible refine Below.setCell ?_ ?_ _) | (with_reducible refine Below.trans ?_ (Below.mono (by with_reducible assumption) ?_)) | go_size))⟩
      simp [results, Tryd.results24, go_sem, z0, z1, z2, z3, z4]
end Go.Proofs.YtnnkomdkggepjaaDoor
