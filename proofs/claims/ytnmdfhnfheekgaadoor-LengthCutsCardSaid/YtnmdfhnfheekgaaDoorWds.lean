/- How long an expression's words are: length.wordsOf. -/
import Derived.Test.YtnmdfhnfheekgaaDoorWo
import Derived.Test.YtnmdfhnfheekgaaDoorChk
import Derived.Test.YtnmdfhnfheekgaaDoorStab2
namespace Go.Proofs.YtnmdfhnfheekgaaDoor
open Go Go.RowKit
def wcomb (o : Int) (s : BitVec 256) (m n : Int) (ws : List Wv) : Wv :=
  if o = 2 then (if s = 0#256 then .none else .bounded 1 1) else if o = 5 then ws.foldl Wv.join (.bounded 0 0) else if o = 6 then ws.foldl Wv.alt .none else if o = 7 then (ws.headD (.bounded 0 0)).rep m n else .bounded 0 0
mutual
def wo : Xp → Wv
  | .mk o _ s _ m n l => wcomb o s m n (wos l)
def wos : List Xp → List Wv
  | [] => []
  | x :: l => wo x :: wos l
end
theorem wos_eq : ∀ l : List Xp, wos l = l.map wo
  | [] => rfl
  | x :: l => by simp only [wos, List.map_cons, wos_eq l]
theorem wo_eq (x : Xp) : wo x = wcomb x.op x.set x.mn x.mx (x.args.map wo) := by
  rw [← wos_eq]; cases x; simp only [wo, Xp.op, Xp.set, Xp.mn, Xp.mx, Xp.args]
/- All that stands in one has fields that may be. -/
mutual
def Good : Xp → Prop
  | .mk o p s t m n l => Fok (.mk o p s t m n l) ∧ Goods l
def Goods : List Xp → Prop
  | [] => True
  | x :: l => Good x ∧ Goods l
end
theorem goods_mem : ∀ {l : List Xp}, Goods l → ∀ y ∈ l, Good y
  | [], _, y, hy => by cases hy
  | x :: l, h, y, hy => by
    simp only [Goods] at h
    rcases List.mem_cons.1 hy with rfl | hy
    · exact h.1
    · exact goods_mem h.2 y hy
theorem good_eq (x : Xp) : Good x ↔ Fok x ∧ Goods x.args := by cases x; simp only [Good, Xp.args]
mutual
theorem mb_good : ∀ (x : Xp) (ar left k : Nat), mb x ar left = some k → Good x ∧ nn x + k = left
  | .mk o p s t m n l, ar, left, k, h => by
    simp only [mb] at h
    split at h
    · cases h
    · rename_i hn
      have h1 := mbs_good l (ar + 1) (left - 1) k h
      have hf : Fok (.mk o p s t m n l) := Decidable.byContradiction fun hc => hn (.inr (.inr hc))
      simp only [Good, nn]
      exact ⟨⟨hf, h1.1⟩, by omega⟩
theorem mbs_good : ∀ (l : List Xp) (ar left k : Nat), mbs l ar left = some k → Goods l ∧ nns l + k = left
  | [], ar, left, k, h => by simp only [mbs, Option.some.injEq] at h; simp only [Goods, nns]; exact ⟨trivial, by omega⟩
  | x :: l, ar, left, k, h => by
    simp only [mbs] at h
    split at h
    · cases h
    · rename_i j hj
      have h1 := mb_good x ar left j hj
      have h2 := mbs_good l ar j k h
      simp only [Goods, nns]
      exact ⟨⟨h1.1, h2.1⟩, by omega⟩
end
theorem chk_good {x : Xp} (h : Chk x) : Good x ∧ nn x ≤ 65536 := by
  obtain ⟨k, hk⟩ := Option.isSome_iff_exists.1 h
  have := mb_good x 0 65536 k hk
  exact ⟨this.1, by omega⟩
theorem foldl_le (f : Wv → Wv → Wv) (hf : ∀ (v u : Wv) (n m : Nat), v.le n → u.le m → (f v u).le (n + m)) : ∀ (l : List Xp) (v : Wv) (n : Nat), (∀ y ∈ l, (wo y).le (nn y)) → v.le n → ((l.map wo).foldl f v).le (n + nns l)
  | [], v, n, _, h => by simpa [nns] using h
  | x :: l, v, n, hl, h => by
    have := foldl_le f hf l (f v (wo x)) (n + nn x) (fun y hy => hl y (List.mem_cons_of_mem _ hy)) (hf _ _ _ _ h (hl x (List.mem_cons_self ..)))
    simp only [List.map_cons, List.foldl_cons, nns]
    exact this.mono (by omega)
theorem wo_le : ∀ x : Xp, (wo x).le (nn x) := by
  intro x
  induction x using Xp.ind with
  | h x ih =>
    rw [wo_eq, nn_eq]
    unfold wcomb
    split
    · split
      · trivial
      · simp only [Wv.le]; omega
    split
    · have := foldl_le Wv.join (fun _ _ _ _ => Wv.le_join) x.args (.bounded 0 0) 0 ih (by simp [Wv.le])
      exact this.mono (by omega)
    split
    · have := foldl_le Wv.alt (fun _ _ _ _ => Wv.le_alt) x.args .none 0 ih trivial
      exact this.mono (by omega)
    split
    · apply Wv.le_rep
      cases hl : x.args with
      | nil => simp [Wv.le]
      | cons y l =>
        have h1 := ih y (by rw [hl]; exact List.mem_cons_self ..)
        simp only [List.map_cons, List.headD_cons, nns]
        exact h1.mono (by omega)
    · simp [Wv.le]
theorem nns_take (l : List Xp) (k : Nat) : nns (l.take k) ≤ nns l := by
  have := nns_append (l.take k) (l.drop k)
  rw [List.take_append_drop] at this
  omega
theorem fold_take {l : List Xp} {k : Nat} (h : k < l.length) (f : Wv → Wv → Wv) (v : Wv) : ((l.take (k + 1)).map wo).foldl f v = f (((l.take k).map wo).foldl f v) (wo l[k]) := by
  rw [List.take_succ_eq_append_getElem h, List.map_append, List.foldl_append]; rfl
set_option maxHeartbeats 4000000 in
set_option maxRecDepth 20000 in
theorem words_any : ∀ (x : Xp) (a : Option Addr) (c : Nat) (w : World), Good x → nn x ≤ 1000000 → Xat w w.heap.size a c x.args →
    Calls Tryd.prog 21 #[xv x a c] w fun e w' => e = .returned (wo x).val ∧ Ext w w' := by
  intro x
  induction x using Xp.ind with
  | h x ih =>
  intro a c w hg hnn hx
  have IH := Lib.hid ih
  have HX := Lib.hid hx
  have HG := Lib.hid (goods_mem ((good_eq x).1 hg).2)
  have hfok := ((good_eq x).1 hg).1
  have hlen := hx.len
  have hb := Blk.new w (xbx x a c) 28
  have hE : Ext w (w.alloc (.cells (xbx x a c) 28)) := by go_grown
  have HB := Lib.hid hb
  have HE := Lib.hid hE
  rw [wo_eq]
  have hemp := emptyw_any
  by_cases h2 : x.op = 2
  · rw [show wcomb x.op x.set x.mn x.mx (x.args.map wo) = if x.set = 0#256 then .none else .bounded 1 1 by unfold wcomb; rw [if_pos h2]]
    have eo : (x.op == 2) = true := by simpa using h2
    have eo' : decide (x.op = 2) = true := by simpa using h2
    have hset := setw_any x.set
    obtain ⟨q, hq⟩ : ∃ q, (if x.set = 0#256 then Wv.none else .bounded 1 1) = q := ⟨_, rfl⟩
    rw [hq] at hset ⊢
    clear ih hx hg hfok hb hE h2 IH hq
    go_enter Tryd.func21, Tryd.ntmps21
    go_wp2_with fail
    refine (hset _).mono ?_
    rintro e w1 ⟨rfl, x1⟩
    have HXX := Lib.hid (bel_call HE.out x1)
    go_wp2_with fail
    go_ret
    exact ⟨rfl, HXX.out⟩
  have eo2 : (x.op == 2) = false := by simpa using h2
  have eo2' : decide (x.op = 2) = false := by simpa using h2
  by_cases h5 : x.op = 5
  · rw [show wcomb x.op x.set x.mn x.mx (x.args.map wo) = (x.args.map wo).foldl Wv.join (.bounded 0 0) by unfold wcomb; rw [if_neg h2, if_pos h5]]
    have eo : (x.op == 5) = true := by simpa using h5
    have eo' : decide (x.op = 5) = true := by simpa using h5
    clear ih hx hg hfok hb hE h2 h5
    go_enter Tryd.func21, Tryd.ntmps21
    go_wp2_with fail
    refine (hemp _).mono ?_
    rintro e w1 ⟨rfl, x1⟩
    have z9 := ((HB.out).ext x1).cell 9
    simp only [xbx, List.getElem?_toArray, List.getElem?_cons_succ, List.getElem?_cons_zero] at z9
    have X1 := Lib.hid x1
    clear x1
    go_wp2_with fail
    generalize w.alloc (Obj.cells (xbx x a c) 28) = wa at *
    go_loopw [3, 22] (fun v i wr => ∃ k : Nat, k ≤ x.args.length ∧ i = .int .i64 k ∧ v = (((x.args.take k).map wo).foldl Wv.join (Wv.bounded 0 0)).val ∧ Hid (Ext wa wr)) (fun _ i _ => x.args.length - (intOf i).toNat)
    case atStart => exact ⟨0, Nat.zero_le _, rfl, rfl, X1⟩
    case round =>
      obtain ⟨k, hk, rfl, rfl, hEr⟩ := hrel
      have z9 := ((HB.out).ext hEr.out).cell 9
      simp only [xbx, List.getElem?_toArray, List.getElem?_cons_succ, List.getElem?_cons_zero] at z9
      by_cases hkl : k < x.args.length
      · have k1 : decide ((k : Int) < (x.args.length : Int)) = true := by simp; omega
        obtain ⟨b, o, rfl, hbb, y, a', c', hy, hmem, hok, hya, c0, c1, c2, c3, c4, c5, c6, c7, c8, c9⟩ := ((HX.out.ext HE.out).ext hEr.out).cells hkl
        have hf := fold_take hkl Wv.join (Wv.bounded 0 0)
        rw [hy] at hf
        have hEa : Ext wr (wr.alloc (.cells (xbx y a' c') 28)) := by go_grown
        have hle1 := nn_mem hmem
        have HC := Lib.hid (IH.out y hmem a' c' (wr.alloc (.cells (xbx y a' c') 28)) (HG.out y hmem) (by omega) (hya.ext hEa))
        have hfl := foldl_le Wv.join (fun _ _ _ _ => Wv.le_join) (x.args.take k) (Wv.bounded 0 0) 0 (fun y _ => wo_le y) (by simp [Wv.le])
        have htk := nns_take x.args k
        generalize hv : ((x.args.take k).map wo).foldl Wv.join (Wv.bounded 0 0) = v at *
        have HFL := Lib.hid (hfl.mono (m := 1000000) (by rw [nn_eq] at hnn; omega))
        have HWL := Lib.hid ((wo_le y).mono (m := 1000000) (by omega))
        have HEa := Lib.hid hEa
        have HFF := Lib.hid hf
        have i0 : (0 : Int) ≤ (k : Int) := by omega
        have i1 : (k : Int) + 1 ≤ 9223372036854775807 := by have : maxLen ≤ 9223372036854775807 := by decide
                                                            omega
        clear hfl hya hok hmem hf hEa htk hle1 hv
        go_wp2_with fail
        refine HC.out.mono ?_
        rintro e w3 ⟨rfl, x3⟩
        go_wp2_with fail
        refine (joined_any _ _ 1000000 _ HFL.out HWL.out (Nat.le_refl _)).mono ?_
        rintro e w4 ⟨rfl, x4⟩
        have HX4 := Lib.hid (bel_call (bel_call (bel_call hEr.out HEa.out) x3) x4)
        go_wp2_with fail
        go_roundw
        case rel => exact ⟨k + 1, by omega, by go_num, by rw [HFF.out], HX4⟩
        case measure => simp [intOf] <;> omega
      · have k1 : decide ((k : Int) < (x.args.length : Int)) = false := by simp; omega
        have hkl2 : x.args.take k = x.args := List.take_of_length_le (by omega)
        rw [hkl2]
        have HXX := Lib.hid (bel_call HE.out hEr.out)
        clear hkl2
        go_wp2_with fail
        go_ret
        exact ⟨rfl, HXX.out⟩
  have eo5 : (x.op == 5) = false := by simpa using h5
  have eo5' : decide (x.op = 5) = false := by simpa using h5
  by_cases h6 : x.op = 6
  · rw [show wcomb x.op x.set x.mn x.mx (x.args.map wo) = (x.args.map wo).foldl Wv.alt .none by unfold wcomb; rw [if_neg h2, if_neg h5, if_pos h6]]
    have eo : (x.op == 6) = true := by simpa using h6
    have eo' : decide (x.op = 6) = true := by simpa using h6
    clear ih hx hg hfok hb hE h2 h5 h6
    go_enter Tryd.func21, Tryd.ntmps21
    go_wp2_with fail
    generalize w.alloc (Obj.cells (xbx x a c) 28) = wa at *
    go_loopw [6, 39] (fun v i wr => ∃ k : Nat, k ≤ x.args.length ∧ i = .int .i64 k ∧ v = (((x.args.take k).map wo).foldl Wv.alt Wv.none).val ∧ Hid (Ext wa wr)) (fun _ i _ => x.args.length - (intOf i).toNat)
    case atStart => exact ⟨0, Nat.zero_le _, rfl, rfl, Lib.hid (Below.refl _ _)⟩
    case round =>
      obtain ⟨k, hk, rfl, rfl, hEr⟩ := hrel
      have z9 := ((HB.out).ext hEr.out).cell 9
      simp only [xbx, List.getElem?_toArray, List.getElem?_cons_succ, List.getElem?_cons_zero] at z9
      by_cases hkl : k < x.args.length
      · have k1 : decide ((k : Int) < (x.args.length : Int)) = true := by simp; omega
        obtain ⟨b, o, rfl, hbb, y, a', c', hy, hmem, hok, hya, c0, c1, c2, c3, c4, c5, c6, c7, c8, c9⟩ := ((HX.out.ext HE.out).ext hEr.out).cells hkl
        have hf := fold_take hkl Wv.alt Wv.none
        rw [hy] at hf
        have hEa : Ext wr (wr.alloc (.cells (xbx y a' c') 28)) := by go_grown
        have hle1 := nn_mem hmem
        have HC := Lib.hid (IH.out y hmem a' c' (wr.alloc (.cells (xbx y a' c') 28)) (HG.out y hmem) (by omega) (hya.ext hEa))
        have hfl := foldl_le Wv.alt (fun _ _ _ _ => Wv.le_alt) (x.args.take k) Wv.none 0 (fun y _ => wo_le y) (by simp [Wv.le])
        have htk := nns_take x.args k
        generalize hv : ((x.args.take k).map wo).foldl Wv.alt Wv.none = v at *
        have HFL := Lib.hid (hfl.mono (m := 1000000) (by rw [nn_eq] at hnn; omega))
        have HWL := Lib.hid ((wo_le y).mono (m := 1000000) (by omega))
        have HEa := Lib.hid hEa
        have HFF := Lib.hid hf
        have i0 : (0 : Int) ≤ (k : Int) := by omega
        have i1 : (k : Int) + 1 ≤ 9223372036854775807 := by have : maxLen ≤ 9223372036854775807 := by decide
                                                            omega
        clear hfl hya hok hmem hf hEa htk hle1 hv
        go_wp2_with fail
        refine HC.out.mono ?_
        rintro e w3 ⟨rfl, x3⟩
        go_wp2_with fail
        refine (either_any _ _ 1000000 _ HFL.out HWL.out (Nat.le_refl _)).mono ?_
        rintro e w4 ⟨rfl, x4⟩
        have HX4 := Lib.hid (bel_call (bel_call (bel_call hEr.out HEa.out) x3) x4)
        go_wp2_with fail
        go_roundw
        case rel => exact ⟨k + 1, by omega, by go_num, by rw [HFF.out], HX4⟩
        case measure => simp [intOf] <;> omega
      · have k1 : decide ((k : Int) < (x.args.length : Int)) = false := by simp; omega
        have hkl2 : x.args.take k = x.args := List.take_of_length_le (by omega)
        rw [hkl2]
        have HXX := Lib.hid (bel_call HE.out hEr.out)
        clear hkl2
        go_wp2_with fail
        go_ret
        exact ⟨rfl, HXX.out⟩
  have eo6 : (x.op == 6) = false := by simpa using h6
  have eo6' : decide (x.op = 6) = false := by simpa using h6
  by_cases h7 : x.op = 7
  · rw [show wcomb x.op x.set x.mn x.mx (x.args.map wo) = ((x.args.map wo).headD (.bounded 0 0)).rep x.mn x.mx by unfold wcomb; rw [if_neg h2, if_neg h5, if_neg h6, if_pos h7]]
    have eo : (x.op == 7) = true := by simpa using h7
    have eo' : decide (x.op = 7) = true := by simpa using h7
    have hl1 : x.args.length = 1 := by
      rcases hfok.2.2 with h | h | h | h
      · omega
      · omega
      · omega
      · exact h.2.2.1
    obtain ⟨b, o, rfl, hbb, y, a', c', hy, hmem, hok, hya, c0, c1, c2, c3, c4, c5, c6, c7, c8, c9⟩ := (hx.ext hE).cells (k := 0) (by omega)
    have hhd : (x.args.map wo).headD (.bounded 0 0) = wo y := by
      cases hl : x.args with
      | nil => rw [hl] at hl1; simp at hl1
      | cons z l => simp [hl] at hy; simp [hy]
    rw [hhd]
    have hle1 := nn_mem hmem
    have HC := Lib.hid (fun w h => IH.out y hmem a' c' w (HG.out y hmem) (by omega) h)
    have HD := Lib.hid (fun w => counted_any (wo y) 1000000 x.mn x.mx w ((wo_le y).mono (by omega)) (Nat.le_refl _))
    have HYA := Lib.hid hya
    simp only [Nat.zero_mul, Nat.add_zero] at c0 c1 c2 c3 c4 c5 c6 c7 c8 c9
    have CS := Lib.hid (And.intro c0 (And.intro c1 (And.intro c2 (And.intro c3 (And.intro c4 (And.intro c5 (And.intro c6 (And.intro c7 (And.intro c8 c9)))))))))
    have HX2 : b < (w.alloc (.cells (xbx x (some ⟨b, o, none⟩) c) 28)).heap.size := hbb
    clear ih hx hg hfok hb h2 h5 h6 h7 hy hhd hmem hok hya c0 c1 c2 c3 c4 c5 c6 c7 c8 c9 IH HG hbb hE
    go_enter Tryd.func21, Tryd.ntmps21
    go_wp2_with fail
    generalize w.alloc (Obj.cells (xbx x (some ⟨b, o, none⟩) c) 28) = wa at *
    have i1 : (0 : Int) < (x.args.length : Int) := by omega
    refine wp_region_stab (fun _ => none) (by kernel_rfl) (by kernel_rfl) (fun _ _ h => by cases h) (fun hex => ?_)
    iterate 11
      (refine wpS_one (A := ?_) hex rfl rfl (by simp) ?_ ?_ ?_
       rotate_left 2
       · intro w' hC K hK
         obtain ⟨hcell, hfrz⟩ := bcell hC.1.ext
         have HYE := HYA.out.ext hC.1.ext; have z7 := (HB.out.ext hC.1.ext).cell 7; have z8 := (HB.out.ext hC.1.ext).cell 8; have z9 := (HB.out.ext hC.1.ext).cell 9; simp only [xbx, List.getElem?_toArray, List.getElem?_cons_succ, List.getElem?_cons_zero] at z7 z8 z9; obtain ⟨c0, c1, c2, c3, c4, c5, c6, c7, c8, c9⟩ := CS.out; rw [← hC.1.ext.cell (p := ⟨b, _, none⟩) HX2] at c0 c1 c2 c3 c4 c5 c6 c7 c8 c9; clear hcell hfrz
         go_wp2_with (first | (go_at_call 21; with_reducible refine (HC.out _ HYE).mono ?_; rintro e w2 ⟨rfl, hb2⟩) | (go_at_call 40; with_reducible refine (HD.out _).mono ?_; rintro e w2 ⟨rfl, hb2⟩))
         refine hK _ ?_
         first | exact Gr.refl _ _ | exact Gr.of_ext (by assumption) hC.1.1.size
       rotate_left 1
       · rfl
       clear hex; intro hex)
    refine wpS_nil fun w6 hE => ?_
    replace hE := hE.1.ext
    obtain ⟨hcell_w6, hfrz_w6⟩ := bcell hE
    have HXX := Lib.hid (bel_call HE.out hE)
    go_wp2_with fail
    go_ret
    exact ⟨rfl, HXX.out⟩
  have eo7 : (x.op == 7) = false := by simpa using h7
  have eo7' : decide (x.op = 7) = false := by simpa using h7
  rw [show wcomb x.op x.set x.mn x.mx (x.args.map wo) = .bounded 0 0 by unfold wcomb; rw [if_neg h2, if_neg h5, if_neg h6, if_neg h7]]
  clear ih hx hg hfok hb hE h2 h5 h6 h7
  go_enter Tryd.func21, Tryd.ntmps21
  go_wp2_with fail
  refine (hemp _).mono ?_
  rintro e w1 ⟨rfl, x1⟩
  have HXX := Lib.hid (bel_call HE.out x1)
  go_wp2_with fail
  go_ret
  exact ⟨rfl, HXX.out⟩
end Go.Proofs.YtnmdfhnfheekgaaDoor
