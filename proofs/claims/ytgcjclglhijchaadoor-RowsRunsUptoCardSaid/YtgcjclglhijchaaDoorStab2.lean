/- A region whose order is left open but for its tail: what reads and calls stands ahead, what writes comes last, whatever the order. And small facts on worlds that have grown. -/
import Derived.Test.YtgcjclglhijchaaDoorStab
import Derived.StillTail
import Derived.WalkKit
namespace Go.Proofs.YtgcjclglhijchaaDoor
open Go Go.RowKit
theorem bcell {W w1 : World} (hb : Ext W w1) : (∀ b o, b < W.heap.size → w1.cell? ⟨b, o, none⟩ = W.cell? ⟨b, o, none⟩) ∧ (∀ b o, b < W.heap.size → w1.frozen? ⟨b, o, none⟩ = W.frozen? ⟨b, o, none⟩) :=
  ⟨fun b o h => hb.cell (p := ⟨b, o, none⟩) h, fun b o h => hb.frozen (p := ⟨b, o, none⟩) h⟩
section
variable {P : Program} {ops : Array Oper} {Rs : Nat → Option (Value → World → Prop)} {W : World}
def anyL (P : Program) (ops : Array Oper) (Rs : Nat → Option (Value → World → Prop)) (W : World) (n : Nat) (L : Array Bool → Act → Env → Prop) : Nat → Array Bool → Act → Env → Prop
  | 0, listed, a, E => L listed a E
  | f + 1, listed, a, E =>
    Region.ready .any ops listed ≠ [] ∧ ∀ i ∈ Region.ready .any ops listed, i < n ∧ sOp P ops Rs W i (anyL P ops Rs W n L f (listed.setIfInBounds i true)) a E
theorem wpAny_of_anyL (hRs : RsMono Rs) {n g : Nat} {L : Array Bool → Act → Env → Prop} {Q' : Exit → Act → World → Prop} (hL : ∀ listed a E w, All W E w → L listed a E → wpAny P .any ops Q' g listed a w) :
    ∀ (f : Nat) (listed : Array Bool) (a : Act) (E : Env) (w : World), EMono E → All W E w → anyL P ops Rs W n L f listed a E → wpAny P .any ops Q' (f + g) listed a w
  | 0, listed, a, E, w, _, hw, h => by rw [Nat.zero_add]; exact hL _ _ _ _ hw h
  | f + 1, listed, a, E, w, hE, hw, h => by
    rw [show f + 1 + g = (f + g) + 1 by omega]
    refine ⟨fun h0 => absurd h0 h.1, fun i hi => ?_⟩
    have h1 := (h.2 i hi).2
    unfold sOp at h1
    unfold wpOp
    split
    · rename_i ho; simp only [ho] at h1; exact wpAny_of_anyL hRs hL f _ _ _ _ hE hw h1
    · rename_i o ho
      simp only [ho] at h1
      obtain ⟨R, hy, hK⟩ := h1
      have hm := hy.mono hRs
      rcases hy with ⟨hn, _, hs⟩ | ⟨hn, rfl⟩
      · rw [if_pos hn]
        exact .inl (wp_of_sAt (hs w (hw.cls o)) fun v w' hx hR => by
          have hw' := (hw.ext hE hx).put (i := i) hR
          exact wpAny_of_anyL hRs hL f _ _ _ _ (hE.put hm v) hw' (hK v ⟨w', hw'⟩))
      · rw [if_neg (by rw [hn]; exact Bool.false_ne_true)]
        have hw' := hw.put (i := i) (p := fun _ => undef = undef) rfl
        exact wpAny_of_anyL hRs hL f _ _ _ _ (hE.put hm undef) hw' (hK undef ⟨w, hw'⟩)
theorem anyL_first (hRs : RsMono Rs) {n i : Nat} {oi : Oper} {L : Array Bool → Act → Env → Prop} (hi : ops[i]? = some oi) (hsel : ∀ (j : Nat) (o : Oper) cs b, ops[j]? = some o → o.op ≠ .select cs b)
    (hs : Region.sinkB .any ops n = true) (hc : Region.chainB .any ops n = true) (hn : n < ops.size) (hin : i < n)
    (hdone : ∀ listed a E, L listed a E → ∀ j ∈ Region.ready .any ops listed, n ≤ j) :
    ∀ (fuel : Nat) (listed : Array Bool) (a : Act) (E : Env) (R : Value → World → Prop), HeadInv .any ops n listed → EMono E → (∃ w, All W E w) →
      (∀ j oj, ops[j]? = some oj → j ≠ i → listed.getD j true = false → (∀ e ∈ oj.after, Region.binds .any e = true → e.on ≠ i) → oi.apart ops oj = true) →
      i ∈ Region.ready .any ops listed → Yd P ops Rs W i oi a E R →
      (∀ v, (∃ w, All W (E.put i (R v)) w) → anyL P ops Rs W n L fuel (listed.setIfInBounds i true) (a.put oi.dst v) (E.put i (R v))) → anyL P ops Rs W n L (fuel + 1) listed a E := by
  have self : ∀ (fuel : Nat) (listed : Array Bool) (a : Act) (E : Env) (R : Value → World → Prop), Yd P ops Rs W i oi a E R →
      (∀ v, (∃ w, All W (E.put i (R v)) w) → anyL P ops Rs W n L fuel (listed.setIfInBounds i true) (a.put oi.dst v) (E.put i (R v))) →
      sOp P ops Rs W i (anyL P ops Rs W n L fuel (listed.setIfInBounds i true)) a E := fun fuel listed a E R hy H => by
    unfold sOp
    simp only [hi]
    exact ⟨R, hy, H⟩
  intro fuel
  induction fuel with
  | zero =>
    intro listed a E R inv hE hex _ hr hy H
    have hun := (mem_ready.1 hr).1
    refine ⟨fun h => (by rw [h] at hr; cases hr), fun j hj => ?_⟩
    have hjn : j < n := by
      rcases Nat.lt_or_ge j n with h | h
      · exact h
      · exact absurd hj (tail_waits hs hc hn inv _ i rfl hin hun j h)
    refine ⟨hjn, ?_⟩
    by_cases hji : j = i
    · subst hji; exact self _ _ _ _ _ hy H
    · obtain ⟨w, hw⟩ := hex
      obtain ⟨v, w', hw'⟩ := hy.exists hRs hE hw
      have := hdone _ _ _ (H v ⟨w', hw'⟩) j (ready_mono hj hji)
      omega
  | succ fuel ih =>
    intro listed a E R inv hE hex hfree hr hy H
    have hun := (mem_ready.1 hr).1
    refine ⟨fun h => (by rw [h] at hr; cases hr), fun j hj => ?_⟩
    have hjn : j < n := by
      rcases Nat.lt_or_ge j n with h | h
      · exact h
      · exact absurd hj (tail_waits hs hc hn inv _ i rfl hin hun j h)
    refine ⟨hjn, ?_⟩
    by_cases hji : j = i
    · subst hji; exact self _ _ _ _ _ hy H
    · obtain ⟨w0, hw0⟩ := hex
      obtain ⟨v0, w0', hw0'⟩ := hy.exists hRs hE hw0
      obtain ⟨hjun, oj, hoj, hall⟩ := mem_ready.1 hj
      have hnot : ∀ e ∈ oj.after, Region.binds .any e = true → e.on ≠ i := fun e he hb heq => by
        have h1 := hall e he hb
        rw [heq, getD_both hun] at h1
        cases h1
      have hap := hfree j oj hoj hji hjun hnot
      obtain ⟨p1, p2, p3⟩ := Oper.apart_spec hap
      have hsi := fun cs b => hsel i oi cs b hi
      have hsj := fun cs b => hsel j oj cs b hoj
      have stepj : ∀ v, (∃ w, All W (E.put i (R v)) w) → ∃ Rj, Yd P ops Rs W j oj a E Rj ∧
          ∀ u, (∃ w, All W ((E.put i (R v)).put j (Rj u)) w) → anyL P ops Rs W n L fuel ((listed.setIfInBounds i true).setIfInBounds j true) ((a.put oi.dst v).put oj.dst u) ((E.put i (R v)).put j (Rj u)) := fun v hv => by
        have h1 := ((H v hv).2 j (ready_mono hj hji)).2
        unfold sOp at h1
        simp only [hoj] at h1
        obtain ⟨Rj, hyj, hK⟩ := h1
        exact ⟨Rj, hyj.of_same (execOp_put oj hsj a oi.dst v p1).symm (wanted_put oj a oi.dst v p1).symm (fun w hw => cls_put hnot hw), hK⟩
      obtain ⟨Rj, hyj, _⟩ := stepj v0 ⟨w0', hw0'⟩
      unfold sOp
      simp only [hoj]
      refine ⟨Rj, hyj, fun u hu => ?_⟩
      have hfree' : ∀ k ok, ops[k]? = some ok → k ≠ i → (listed.setIfInBounds j true).getD k true = false →
          (∀ e ∈ ok.after, Region.binds .any e = true → e.on ≠ i) → oi.apart ops ok = true := fun k ok hk hki hun hno => by
        refine hfree k ok hk hki ?_ hno
        by_cases hjk : j = k
        · subst hjk; exact hjun
        · rw [getD_set_ne true hjk] at hun; exact hun
      refine ih (listed.setIfInBounds j true) (a.put oj.dst u) (E.put j (Rj u)) R (inv.set hj hjn) (hE.put (hyj.mono hRs) u) hu hfree' (ready_mono hr (Ne.symm hji))
        (hy.of_same (execOp_put oi hsi a oj.dst u p3) (wanted_put oi a oj.dst u p3) (fun w hw => cls_drop hw)) ?_
      intro v hv
      rw [Env.put_comm] at hv
      obtain ⟨w1, hw1⟩ := hv
      obtain ⟨Rj', hyj', hK⟩ := stepj v ⟨w1, hw1.drop⟩
      have e := hyj.unique hyj' (hw0.cls oj)
      subst e
      have := hK u ⟨w1, hw1⟩
      rw [Array.setIfInBounds_comm _ _ hji, ← Act.put_comm a v u p2, Env.put_comm]
      rw [Env.put_comm] at this
      rw [Env.put_comm]
      exact this
theorem anyL_lex (hRs : RsMono Rs) {n g : Nat} {Lq : Act → World → Prop} (hsel : Region.noSelect ops = true) (hs : Region.sinkB .any ops n = true) (hc : Region.chainB .any ops n = true) (hn : n < ops.size) :
    ∀ (l : List Oper) (k : Nat) (listed : Array Bool) (a : Act) (E : Env), (∀ j, j < l.length → l[j]? = ops[k + j]?) → k + l.length = n → HeadInv .any ops n listed →
    Region.lexHead .any ops g l.length k listed = true → EMono E → (∃ w, All W E w) → wpS P ops Rs W Lq k l a E →
    anyL P ops Rs W n (fun listed' a' E' => Region.seqB .any ops g n listed' = true ∧ ∀ w, All W E' w → Lq a' w) l.length listed a E
  | [], k, listed, a, E, _, hk, _, hB, _, _, h => by
    have : k = n := by simpa using hk
    subst this
    exact ⟨by simpa [Region.lexHead] using hB, h⟩
  | o :: l, k, listed, a, E, hl, hk, inv, hB, hE, hex, h => by
    have h0 : ops[k]? = some o := by simpa using (hl 0 (by simp)).symm
    simp only [List.length_cons, Region.lexHead, Bool.and_eq_true] at hB
    obtain ⟨⟨hr, hf⟩, hB'⟩ := hB
    have hkn : k < n := by simp only [List.length_cons] at hk; omega
    have hr' : k ∈ Region.ready .any ops listed := by simpa using hr
    obtain ⟨R, hy, hK⟩ := h
    exact anyL_first hRs h0 (Region.noSelect_spec hsel) hs hc hn hkn (fun listed' a' E' hL => seqB_ready hL.1) l.length listed a E R inv hE hex (Region.free_spec h0 hf) hr' hy
      (fun v hv => anyL_lex hRs hsel hs hc hn l (k + 1) _ _ _ (fun j hj => by have := hl (j + 1) (by simp; omega); simpa [Nat.add_assoc, Nat.add_comm 1 j] using this) (by simp only [List.length_cons] at hk; omega) (inv.set hr' hkn) hB' (hE.put (hy.mono hRs) v) hv (hK v hv))
/-- ONE WALK OF WHAT STANDS AHEAD, THEN THE TAIL. -/
theorem wp_region_tail (Rs : Nat → Option (Value → World → Prop)) {id : Nat} {Q : Exit → Act → World → Prop} {a : Act} {w : World} {l : List Oper} (n : Nat) (hm : P.follows .mixedOrders = true) (hB : Region.lexTailB .any l.toArray n = true) (hRs : RsMono Rs)
    (h : (∃ w', All w (fun _ _ => True) w') → wpS P l.toArray Rs w (fun a' w' => wpList P l.toArray Q (l.drop n) a' w') 0 (l.take n) a (fun _ _ => True)) : (Code.region id l.toArray true).wp P Q a w := by
  simp only [Region.lexTailB, Bool.and_eq_true, decide_eq_true_eq] at hB
  obtain ⟨⟨⟨⟨hsel, hn⟩, hs⟩, hc⟩, hlex⟩ := hB
  have hn' : n < l.length := by simpa using hn
  have htl : (l.take n).length = n := by simp; omega
  have hdl : (l.drop n).length = l.toArray.size - n := by simp
  have inv0 : HeadInv .any l.toArray n (Array.replicate l.toArray.size false) :=
    ⟨by simp, fun j oj _ hl => (by rw [getD_replicate_false] at hl; cases hl), fun t _ ht => getD_in (by simpa using ht) (getD_replicate_false _ _)⟩
  have hw : All w (fun _ _ => True) { w with drawn := w.drawn + 1 } := ⟨Gr.draw w, fun _ => trivial⟩
  have hE : EMono (fun _ _ => True) := fun _ _ _ _ h => h
  refine wp_region_any hm ?_
  have hsz : l.toArray.size = (l.take n).length + (l.drop n).length := by rw [htl, hdl]; omega
  rw [hsz]
  refine wpAny_of_anyL hRs (W := w) (n := n) (L := fun listed' a' E' => Region.seqB .any l.toArray (l.toArray.size - n) n listed' = true ∧ ∀ w', All w E' w' → wpList P l.toArray Q (l.drop n) a' w')
    (fun listed' a' E' w' hw' hL => ?_) _ _ _ (fun _ _ => True) _ hE hw ?_
  · exact wpAny_of_seq (l.drop n) n listed' a' w' (fun j => by simp) (by rw [hdl]; exact hL.1) (hL.2 w' hw')
  · have := anyL_lex hRs (W := w) (P := P) (g := l.toArray.size - n) hsel hs hc hn (l.take n) 0 (Array.replicate l.toArray.size false) a (fun _ _ => True)
      (fun j hj => by rw [htl] at hj; simp [List.getElem?_take_of_lt hj]) (by rw [htl]; omega) inv0 (by rw [htl]; exact hlex) hE ⟨_, hw⟩ (h ⟨_, hw⟩)
    rw [← hsz]
    exact this
end
end Go.Proofs.YtgcjclglhijchaaDoor
