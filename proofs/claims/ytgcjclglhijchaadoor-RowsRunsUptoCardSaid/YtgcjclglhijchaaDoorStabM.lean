/- (For any way in which worlds may grow.) A region whose order is left open, of which the first operations have been taken already: the others ahead, then the tail. -/
import Derived.Test.YtgcjclglhijchaaDoorStabG
namespace Go.Proofs.YtgcjclglhijchaaDoor.G
open Go Go.RowKit
set_option linter.unusedSectionVars false
def sinkFrom (md : Region.Mode) (ops : Array Oper) (n k0 : Nat) : Bool :=
  (List.range n).all fun i => decide (i < k0) || (List.range (n + 1)).any fun j => decide (i < j) && Region.waitsFor md ops j i
def invM (md : Region.Mode) (ops : Array Oper) (n k0 : Nat) (listed : Array Bool) : Bool :=
  decide (listed.size = ops.size) && ((List.range ops.size).all (fun j => !listed.getD j false || (match ops[j]? with | some o => o.after.all (fun e => !Region.binds md e || listed.getD e.on false) | none => true)) &&
    ((List.range ops.size).all (fun t => decide (t < n) || !listed.getD t true) && (List.range k0).all (fun i => listed.getD i false)))
def lexM (ops : Array Oper) (n k0 : Nat) (listed : Array Bool) : Bool :=
  Region.noSelect ops && (decide (n < ops.size) && (decide (k0 ≤ n) && (sinkFrom .any ops n k0 && (Region.chainB .any ops n && (invM .any ops n k0 listed && Region.lexHead .any ops (ops.size - n) (n - k0) k0 listed)))))
theorem invM_spec {md : Region.Mode} {ops : Array Oper} {n k0 : Nat} {listed : Array Bool} (h : invM md ops n k0 listed = true) : HeadInv md ops n listed ∧ ∀ i, i < k0 → listed.getD i false = true := by
  unfold invM at h
  simp only [Bool.and_eq_true, decide_eq_true_eq, List.all_eq_true, List.mem_range, Bool.or_eq_true] at h
  obtain ⟨h1, h2, h3, h4⟩ := h
  refine ⟨⟨h1, fun j oj hj hl e he hb => ?_, fun t ht hts => ?_⟩, h4⟩
  · have hjs : j < ops.size := (Array.getElem?_eq_some_iff.1 hj).1
    rcases h2 j hjs with q | q
    · rw [hl] at q; cases q
    · rw [hj] at q
      simp only [Array.all_eq_true_iff_forall_mem, Bool.or_eq_true] at q
      rcases q e he with q | q
      · rw [hb] at q; cases q
      · exact q
  · rcases h3 t hts with q | q
    · omega
    · simpa using q
theorem tail_waitsM {md : Region.Mode} {ops : Array Oper} {n k0 : Nat} {listed : Array Bool} (hs : sinkFrom md ops n k0 = true) (hc : Region.chainB md ops n = true) (hn : n < ops.size) (inv : HeadInv md ops n listed) (hk : ∀ i, i < k0 → listed.getD i false = true) :
    ∀ (d i : Nat), n - i = d → i < n → listed.getD i true = false → ∀ t, n ≤ t → t ∉ Region.ready md ops listed := by
  intro d
  induction d using Nat.strongRecOn with
  | _ d ih =>
    intro i hd hi hun t ht hr
    obtain ⟨_, ot, hot, hall⟩ := mem_ready.1 hr
    have htlt : t < ops.size := (Array.getElem?_eq_some_iff.1 hot).1
    by_cases htn : t = n
    · subst htn
      have h1 := List.all_eq_true.1 hs i (List.mem_range.2 hi)
      have h1 : ((List.range (t + 1)).any fun j => decide (i < j) && Region.waitsFor md ops j i) = true := by
        rcases Bool.or_eq_true _ _ |>.mp h1 with q | q
        · have q := hk i (by simpa using q)
          rw [getD_both hun] at q; cases q
        · exact q
      obtain ⟨j, hj, hj2⟩ := List.any_eq_true.1 h1
      simp only [Bool.and_eq_true, decide_eq_true_eq] at hj2
      obtain ⟨oj, hoj, e, he, hb, hon⟩ := Region.waitsFor_spec hj2.2
      have hjle : j ≤ t := by have := List.mem_range.1 hj; omega
      by_cases hjt : j = t
      · subst hjt
        have : oj = ot := Option.some.inj (hoj.symm.trans hot)
        subst this
        have h2 := hall e he hb
        rw [hon, getD_both hun] at h2
        cases h2
      · cases hl : listed.getD j false with
        | true =>
          have h2 := inv.closed j oj hoj hl e he hb
          rw [hon, getD_both hun] at h2
          cases h2
        | false =>
          have hjs : j < listed.size := by rw [inv.size]; omega
          exact ih (t - j) (by omega) j rfl (by omega) (getD_in hjs hl) t (Nat.le_refl _) hr
    · have h1 := List.all_eq_true.1 hc t (List.mem_range.2 htlt)
      simp only [Bool.or_eq_true, decide_eq_true_eq] at h1
      rcases h1 with h1 | h1
      · omega
      · obtain ⟨o', ho', e, he, hb, hon⟩ := Region.waitsFor_spec h1
        have : o' = ot := Option.some.inj (ho'.symm.trans hot)
        subst this
        have h2 := hall e he hb
        rw [hon, getD_both (inv.tail (t - 1) (by omega) (by omega))] at h2
        cases h2
section
variable {G : World → World → Prop} [GOK G] {P : Program} {ops : Array Oper} {Rs : Nat → Option (Value → World → Prop)} {W : World}
theorem anyL_firstM (hRs : RsMono G Rs) {n k0 i : Nat} {oi : Oper} {L : Array Bool → Act → Env → Prop} (hi : ops[i]? = some oi) (hsel : ∀ (j : Nat) (o : Oper) cs b, ops[j]? = some o → o.op ≠ .select cs b)
    (hs : sinkFrom .any ops n k0 = true) (hc : Region.chainB .any ops n = true) (hn : n < ops.size) (hin : i < n)
    (hdone : ∀ listed a E, L listed a E → ∀ j ∈ Region.ready .any ops listed, n ≤ j) :
    ∀ (fuel : Nat) (listed : Array Bool) (a : Act) (E : Env) (R : Value → World → Prop), HeadInv .any ops n listed → (∀ i, i < k0 → listed.getD i false = true) → EMono G E → (∃ w, All G W E w) →
      (∀ j oj, ops[j]? = some oj → j ≠ i → listed.getD j true = false → (∀ e ∈ oj.after, Region.binds .any e = true → e.on ≠ i) → oi.apart ops oj = true) →
      i ∈ Region.ready .any ops listed → Yd G P ops Rs W i oi a E R →
      (∀ v, (∃ w, All G W (E.put i (R v)) w) → anyL G P ops Rs W n L fuel (listed.setIfInBounds i true) (a.put oi.dst v) (E.put i (R v))) → anyL G P ops Rs W n L (fuel + 1) listed a E := by
  have self : ∀ (fuel : Nat) (listed : Array Bool) (a : Act) (E : Env) (R : Value → World → Prop), Yd G P ops Rs W i oi a E R →
      (∀ v, (∃ w, All G W (E.put i (R v)) w) → anyL G P ops Rs W n L fuel (listed.setIfInBounds i true) (a.put oi.dst v) (E.put i (R v))) →
      sOp G P ops Rs W i (anyL G P ops Rs W n L fuel (listed.setIfInBounds i true)) a E := fun fuel listed a E R hy H => by
    unfold sOp
    simp only [hi]
    exact ⟨R, hy, H⟩
  intro fuel
  induction fuel with
  | zero =>
    intro listed a E R inv hk0 hE hex _ hr hy H
    have hun := (mem_ready.1 hr).1
    refine ⟨fun h => (by rw [h] at hr; cases hr), fun j hj => ?_⟩
    have hjn : j < n := by
      rcases Nat.lt_or_ge j n with h | h
      · exact h
      · exact absurd hj (tail_waitsM hs hc hn inv hk0 _ i rfl hin hun j h)
    refine ⟨hjn, ?_⟩
    by_cases hji : j = i
    · subst hji; exact self _ _ _ _ _ hy H
    · obtain ⟨w, hw⟩ := hex
      obtain ⟨v, w', hw'⟩ := hy.exists hRs hE hw
      have := hdone _ _ _ (H v ⟨w', hw'⟩) j (ready_mono hj hji)
      omega
  | succ fuel ih =>
    intro listed a E R inv hk0 hE hex hfree hr hy H
    have hun := (mem_ready.1 hr).1
    refine ⟨fun h => (by rw [h] at hr; cases hr), fun j hj => ?_⟩
    have hjn : j < n := by
      rcases Nat.lt_or_ge j n with h | h
      · exact h
      · exact absurd hj (tail_waitsM hs hc hn inv hk0 _ i rfl hin hun j h)
    refine ⟨hjn, ?_⟩
    by_cases hji : j = i
    · subst hji; exact self _ _ _ _ _ hy H
    · obtain ⟨w0, hw0⟩ := hex
      obtain ⟨v0, w0', hw0'⟩ := hy.exists hRs hE hw0
      obtain ⟨hjun, oj, hoj, hall⟩ := mem_ready.1 hj
      have hnot : ∀ e ∈ oj.after, Region.binds .any e = true → e.on ≠ i := fun e he hb heq => by
        have h1 := hall e he hb
        rw [heq, getD_both hun] at h1
        cases h1
      have hap := hfree j oj hoj hji hjun hnot
      obtain ⟨p1, p2, p3⟩ := Oper.apart_spec hap
      have hsi := fun cs b => hsel i oi cs b hi
      have hsj := fun cs b => hsel j oj cs b hoj
      have stepj : ∀ v, (∃ w, All G W (E.put i (R v)) w) → ∃ Rj, Yd G P ops Rs W j oj a E Rj ∧
          ∀ u, (∃ w, All G W ((E.put i (R v)).put j (Rj u)) w) → anyL G P ops Rs W n L fuel ((listed.setIfInBounds i true).setIfInBounds j true) ((a.put oi.dst v).put oj.dst u) ((E.put i (R v)).put j (Rj u)) := fun v hv => by
        have h1 := ((H v hv).2 j (ready_mono hj hji)).2
        unfold sOp at h1
        simp only [hoj] at h1
        obtain ⟨Rj, hyj, hK⟩ := h1
        exact ⟨Rj, hyj.of_same (execOp_put oj hsj a oi.dst v p1).symm (wanted_put oj a oi.dst v p1).symm (fun w hw => cls_put hnot hw), hK⟩
      obtain ⟨Rj, hyj, _⟩ := stepj v0 ⟨w0', hw0'⟩
      unfold sOp
      simp only [hoj]
      refine ⟨Rj, hyj, fun u hu => ?_⟩
      have hfree' : ∀ k ok, ops[k]? = some ok → k ≠ i → (listed.setIfInBounds j true).getD k true = false →
          (∀ e ∈ ok.after, Region.binds .any e = true → e.on ≠ i) → oi.apart ops ok = true := fun k ok hk hki hun hno => by
        refine hfree k ok hk hki ?_ hno
        by_cases hjk : j = k
        · subst hjk; exact hjun
        · rw [getD_set_ne true hjk] at hun; exact hun
      refine ih (listed.setIfInBounds j true) (a.put oj.dst u) (E.put j (Rj u)) R (inv.set hj hjn) (fun i hi => getD_set_true (hk0 i hi)) (hE.put (hyj.mono hRs) u) hu hfree' (ready_mono hr (Ne.symm hji))
        (hy.of_same (execOp_put oi hsi a oj.dst u p3) (wanted_put oi a oj.dst u p3) (fun w hw => cls_drop hw)) ?_
      intro v hv
      rw [Env.put_comm] at hv
      obtain ⟨w1, hw1⟩ := hv
      obtain ⟨Rj', hyj', hK⟩ := stepj v ⟨w1, hw1.drop⟩
      have e := hyj.unique hyj' (hw0.cls oj)
      subst e
      have := hK u ⟨w1, hw1⟩
      rw [Array.setIfInBounds_comm _ _ hji, ← Act.put_comm a v u p2, Env.put_comm]
      rw [Env.put_comm] at this
      rw [Env.put_comm]
      exact this
theorem anyL_lexM (hRs : RsMono G Rs) {n k0 g : Nat} {Lq : Act → World → Prop} (hsel : Region.noSelect ops = true) (hs : sinkFrom .any ops n k0 = true) (hc : Region.chainB .any ops n = true) (hn : n < ops.size) :
    ∀ (l : List Oper) (k : Nat) (listed : Array Bool) (a : Act) (E : Env), (∀ j, j < l.length → l[j]? = ops[k + j]?) → k + l.length = n → HeadInv .any ops n listed → (∀ i, i < k0 → listed.getD i false = true) →
    Region.lexHead .any ops g l.length k listed = true → EMono G E → (∃ w, All G W E w) → wpS G P ops Rs W Lq k l a E →
    anyL G P ops Rs W n (fun listed' a' E' => Region.seqB .any ops g n listed' = true ∧ ∀ w, All G W E' w → Lq a' w) l.length listed a E
  | [], k, listed, a, E, _, hk, _, _, hB, _, _, h => by
    have : k = n := by simpa using hk
    subst this
    exact ⟨by simpa [Region.lexHead] using hB, h⟩
  | o :: l, k, listed, a, E, hl, hk, inv, hk0, hB, hE, hex, h => by
    have h0 : ops[k]? = some o := by simpa using (hl 0 (by simp)).symm
    simp only [List.length_cons, Region.lexHead, Bool.and_eq_true] at hB
    obtain ⟨⟨hr, hf⟩, hB'⟩ := hB
    have hkn : k < n := by simp only [List.length_cons] at hk; omega
    have hr' : k ∈ Region.ready .any ops listed := by simpa using hr
    obtain ⟨R, hy, hK⟩ := h
    exact anyL_firstM hRs h0 (Region.noSelect_spec hsel) hs hc hn hkn (fun listed' a' E' hL => seqB_ready hL.1) l.length listed a E R inv hk0 hE hex (Region.free_spec h0 hf) hr' hy
      (fun v hv => anyL_lexM hRs hsel hs hc hn l (k + 1) _ _ _ (fun j hj => by have := hl (j + 1) (by simp; omega); simpa [Nat.add_assoc, Nat.add_comm 1 j] using this) (by simp only [List.length_cons] at hk; omega) (inv.set hr' hkn) (fun i hi => getD_set_true (hk0 i hi)) hB' (hE.put (hy.mono hRs) v) hv (hK v hv))
/-- WHAT STANDS AHEAD BUT FOR WHAT IS TAKEN, THEN THE TAIL. -/
theorem wpAny_tailM (Rs : Nat → Option (Value → World → Prop)) {Q : Exit → Act → World → Prop} {a : Act} {V w : World} (hV : G V w) {l : List Oper} (n k0 : Nat) (listed : Array Bool) (hB : lexM l.toArray n k0 listed = true) (hRs : RsMono G Rs)
    (h : (∃ w', All G V (fun _ _ => True) w') → wpS G P l.toArray Rs V (fun a' w' => wpList P l.toArray Q (l.drop n) a' w') k0 ((l.take n).drop k0) a (fun _ _ => True)) : wpAny P .any l.toArray Q (l.length - k0) listed a w := by
  simp only [lexM, Bool.and_eq_true, decide_eq_true_eq] at hB
  obtain ⟨hsel, hn, hkn, hs, hc, hi, hlex⟩ := hB
  obtain ⟨inv0, hk0⟩ := invM_spec hi
  have hn' : n < l.length := by simpa using hn
  have htl : ((l.take n).drop k0).length = n - k0 := by rw [List.length_drop, List.length_take]; omega
  have hdl : (l.drop n).length = l.toArray.size - n := by simp
  have hw : All G V (fun _ _ => True) w := ⟨hV, fun _ => trivial⟩
  have hE : EMono G (fun _ _ => True) := fun _ _ _ _ h => h
  have hsz : l.length - k0 = ((l.take n).drop k0).length + (l.drop n).length := by rw [htl, hdl, List.size_toArray]; omega
  rw [hsz]
  refine wpAny_of_anyL hRs (W := V) (n := n) (L := fun listed' a' E' => Region.seqB .any l.toArray (l.toArray.size - n) n listed' = true ∧ ∀ w', All G V E' w' → wpList P l.toArray Q (l.drop n) a' w')
    (fun listed' a' E' w' hw' hL => ?_) _ _ _ (fun _ _ => True) _ hE hw ?_
  · exact wpAny_of_seq (l.drop n) n listed' a' w' (fun j => by simp) (by rw [hdl]; exact hL.1) (hL.2 w' hw')
  · exact anyL_lexM hRs (W := V) (P := P) (g := l.toArray.size - n) hsel hs hc hn ((l.take n).drop k0) k0 listed a (fun _ _ => True)
      (fun j hj => by rw [htl] at hj; rw [List.getElem?_drop, List.getElem?_take_of_lt (by omega)]; simp) (by rw [htl]; omega) inv0 hk0 (by rw [htl]; exact hlex) hE ⟨_, hw⟩ (h ⟨_, hw⟩)
end
end Go.Proofs.YtgcjclglhijchaaDoor.G
