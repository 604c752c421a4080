/- (For any way in which worlds may grow; what is said of an operation's value may speak of one operand's, or of one that an operation tells for which it waits.) A region whose order is left open: one walk in the order of the text serves every order. -/
import Derived.Test.YtgcjclglhijchaaDoorStabG
namespace Go.Proofs.YtgcjclglhijchaaDoor.Y
open Go Go.RowKit
set_option linter.unusedSectionVars false
open Go.Proofs.YtgcjclglhijchaaDoor.G (GOK)
/-- A frame that stops as soon as it has been handed a value. -/
def dummyFr : Frame := { fn := 0, tmps := #[undef], todo := [.extern "x" #[], .code (.refuse "x")], defers := [], mode := .run, kind := .normal }

/-- What is said of an operation's value: it may speak of the value of one operand. -/
abbrev RsT := Nat → Option (Option Operand × (Value → Value → World → Prop))
def evalO (ρ : Operand → Value) : Option Operand → Value
  | none => undef
  | some x => ρ x
/-- A slot that an operation alone writes, for which this one waits. -/
def Wtd (ops : Array Oper) (o : Oper) (y : Operand) : Prop := ∃ e ∈ o.after, Region.binds .any e = true ∧ ∃ d, y = .tmp d ∧ ∀ j oj, ops[j]? = some oj → oj.dst = some d → j = e.on
theorem eval_put_of {ops : Array Oper} {o : Oper} {a : Act} {dst : Option Tmp} {v : Value} (h : ∀ d, dst = some d → d ∉ o.looksAt ops) : ∀ x ∈ o.op.operands, (a.put dst v).eval x = a.eval x :=
  fun x hx => Act.eval_put fun d hd hxd => h d hd (by
    subst hxd
    exact List.mem_append_left _ (List.mem_filterMap.2 ⟨.tmp d, by simpa using hx, rfl⟩))
section
variable {G : World → World → Prop} [GOK G] {P : Program} {ops : Array Oper} {md : Region.Mode} {Rs : RsT} {W : World}

abbrev Env := Nat → World → Prop
def Env.put (E : Env) (i : Nat) (p : World → Prop) : Env := fun j w => (j = i → p w) ∧ E j w
/-- A world that may stand behind some of the region's operations. -/
def All (G : World → World → Prop) (W : World) (E : Env) (w : World) : Prop := G W w ∧ ∀ i, E i w
/-- .. in which an operation may come up: of what ran ahead, that which it waits for is known. -/
def Cls (G : World → World → Prop) (W : World) (o : Oper) (E : Env) (w : World) : Prop := G W w ∧ ∀ i, (o.after.any fun e => Region.binds .any e && e.on == i) = true → E i w

def sUpon (G : World → World → Prop) (P : Program) (_W w : World) (R : Value → World → Prop) : Result Next → Prop
  | .ok (.value u) w' => G w w' ∧ R u w'
  | .ok .skip w' => G w w' ∧ R undef w'
  | .ok (.enter f args) w' => Calls P f args w' fun e w'' => ∃ u, e = .returned u ∧ G w w'' ∧ R u w''
  | .ok (.row row args) w' => Go.Rows P row args w' fun u w'' => G w w'' ∧ R u w''
  | _ => False
def sAt (G : World → World → Prop) (P : Program) (W : World) (o : Oper) (a : Act) (w : World) (R : Value → World → Prop) : Prop := sUpon G P W w R ((execOp a.eval o).run P w)

def Allowed (ops : Array Oper) (Rs : RsT) (j : Nat) (o : Oper) (ρ : Operand → Value) (R : Value → World → Prop) : Prop :=
  match Rs j with
  | some (x, R') => (∀ y, x = some y → y ∈ o.op.operands ∨ Wtd ops o y) ∧ R = R' (evalO ρ x)
  | none => match o.dst with
    | none => R = fun _ _ => True
    | some _ => ∃ u, R = fun v _ => v = u
def Yd (G : World → World → Prop) (P : Program) (ops : Array Oper) (Rs : RsT) (W : World) (j : Nat) (o : Oper) (a : Act) (E : Env) (R : Value → World → Prop) : Prop :=
  (Region.wanted o (yielded ops a.tmps) = true ∧ Allowed ops Rs j o a.eval R ∧ ∀ w, Cls G W o E w → sAt G P W o a w R) ∨
  (Region.wanted o (yielded ops a.tmps) = false ∧ R = fun v _ => v = undef)
def sOp (G : World → World → Prop) (P : Program) (ops : Array Oper) (Rs : RsT) (W : World) (j : Nat) (K : Act → Env → Prop) (a : Act) (E : Env) : Prop :=
  match ops[j]? with
  | none => K a E
  | some o => ∃ R, Yd G P ops Rs W j o a E R ∧ ∀ v, (∃ w, All G W (E.put j (R v)) w) → K (a.put o.dst v) (E.put j (R v))
def anyS (G : World → World → Prop) (P : Program) (md : Region.Mode) (ops : Array Oper) (Rs : RsT) (W : World) (Q : Act → World → Prop) : Nat → Array Bool → Act → Env → Prop
  | 0, listed, a, E => Region.ready md ops listed = [] ∧ ∀ w, All G W E w → Q a w
  | fuel + 1, listed, a, E =>
    (Region.ready md ops listed = [] → ∀ w, All G W E w → Q a w) ∧
    ∀ i ∈ Region.ready md ops listed, sOp G P ops Rs W i (anyS G P md ops Rs W Q fuel (listed.setIfInBounds i true)) a E

theorem stop_frame (v : Value) (w : World) : ∃ o w', step P (lone (dummyFr.finish v) [] w) = .ended o w' :=
  ⟨_, _, step_lone_ended (by simp [dummyFr, Frame.finish, stepG, stepG.exec]; exact ⟨rfl, rfl⟩)⟩
theorem same_stop {m : Machine} {n n' : Nat} {v v' : Value} {w w' : World} (h : runN P n m = .next (lone (dummyFr.finish v) [] w)) (h' : runN P n' m = .next (lone (dummyFr.finish v') [] w')) : v = v' := by
  obtain ⟨o, wd, hd⟩ := stop_frame (P := P) v w
  obtain ⟨o', wd', hd'⟩ := stop_frame (P := P) v' w'
  rcases Nat.lt_trichotomy n n' with hlt | rfl | hlt
  · have e : n' = n + (n' - n - 1 + 1) := by omega
    rw [e, runN_add, h] at h'
    simp [runN, hd] at h'
  · rw [h] at h'
    have e := Stepped.next.inj h'
    simp [lone, dummyFr, Frame.finish] at e
    exact e.2
  · have e : n = n' + (n - n' - 1 + 1) := by omega
    rw [e, runN_add, h'] at h
    simp [runN, hd'] at h
theorem Calls.stops {f : FuncId} {args : Array Value} {w : World} {u : Value} {X : World → Prop} (h : Calls P f args w fun e w'' => ∃ v, e = .returned v ∧ X w'' ∧ v = u) :
    ∃ n w', runN P n (lone (Frame.enter P f args .normal) [dummyFr] w) = .next (lone (dummyFr.finish u) [] w') := by
  obtain ⟨e, w1, fr, ⟨v, rfl, _, rfl⟩, hc, hfn, hl⟩ := h [dummyFr]
  obtain ⟨n, hn⟩ := hc
  refine ⟨n + 1, w1, ?_⟩
  rw [runN_add, hn]
  simp [runN, step_leave_returned hl]
/-- A call hands back one value. -/
theorem Calls.one_value {f : FuncId} {args : Array Value} {w : World} {u u' : Value} {X X' : World → Prop} (h : Calls P f args w fun e w'' => ∃ v, e = .returned v ∧ X w'' ∧ v = u)
    (h' : Calls P f args w fun e w'' => ∃ v, e = .returned v ∧ X' w'' ∧ v = u') : u = u' := by
  obtain ⟨n, w1, hn⟩ := Calls.stops h
  obtain ⟨n', w1', hn'⟩ := Calls.stops h'
  exact same_stop hn hn'
theorem Rows.one_value {row : String} {args : Array Value} {w : World} {u u' : Value} {X X' : World → Prop} (h : Go.Rows P row args w fun v w'' => X w'' ∧ v = u)
    (h' : Go.Rows P row args w fun v w'' => X' w'' ∧ v = u') : u = u' := by
  obtain ⟨v, w1, ⟨_, rfl⟩, n, hn⟩ := h dummyFr []
  obtain ⟨v', w1', ⟨_, rfl⟩, n', hn'⟩ := h' dummyFr []
  exact same_stop hn hn'

def Mono (G : World → World → Prop) (R : Value → World → Prop) : Prop := ∀ v w w', G w w' → R v w → R v w'
def EMono (G : World → World → Prop) (E : Env) : Prop := ∀ i w w', G w w' → E i w → E i w'
def RsMono (G : World → World → Prop) (Rs : RsT) : Prop := ∀ j x R, Rs j = some (x, R) → ∀ u, Mono G (R u)

theorem EMono.put {E : Env} (h : EMono G E) {i : Nat} {R : Value → World → Prop} (hR : Mono G R) (v : Value) : EMono G (E.put i (R v)) :=
  fun j w w' hx ⟨h1, h2⟩ => ⟨fun e => hR _ _ _ hx (h1 e), h j w w' hx h2⟩
theorem Allowed.mono (hRs : RsMono G Rs) {j : Nat} {o : Oper} {ρ : Operand → Value} {R : Value → World → Prop} (h : Allowed ops Rs j o ρ R) : Mono G R := by
  unfold Allowed at h
  split at h
  · rename_i x R' h'; obtain ⟨_, rfl⟩ := h; exact hRs _ _ _ h' _
  · split at h
    · subst h; exact fun _ _ _ _ e => e
    · obtain ⟨u, rfl⟩ := h; exact fun _ _ _ _ e => e
theorem Yd.mono (hRs : RsMono G Rs) {j : Nat} {o : Oper} {a : Act} {E : Env} {R : Value → World → Prop} (h : Yd G P ops Rs W j o a E R) : Mono G R := by
  rcases h with ⟨_, h, _⟩ | ⟨_, rfl⟩
  · exact h.mono hRs
  · exact fun _ _ _ _ e => e
theorem All.cls {E : Env} {w : World} (h : All G W E w) (o : Oper) : Cls G W o E w := ⟨h.1, fun i _ => h.2 i⟩
theorem All.drop {E : Env} {i : Nat} {p : World → Prop} {w : World} (h : All G W (E.put i p) w) : All G W E w := ⟨h.1, fun j => (h.2 j).2⟩
theorem All.put {E : Env} {i : Nat} {p : World → Prop} {w : World} (h : All G W E w) (hp : p w) : All G W (E.put i p) w := ⟨h.1, fun j => ⟨fun _ => hp, h.2 j⟩⟩
theorem All.ext {E : Env} (hE : EMono G E) {w w' : World} (h : All G W E w) (hx : G w w') : All G W E w' := ⟨GOK.trans h.1 hx, fun i => hE i _ _ hx (h.2 i)⟩
theorem sAt.exists {o : Oper} {a : Act} {w : World} {R : Value → World → Prop} (h : sAt G P W o a w R) : ∃ v w', G w w' ∧ R v w' := by
  unfold sAt at h
  generalize (execOp a.eval o).run P w = r at h
  cases r with
  | ok n w' =>
    cases n <;> simp only [sUpon] at h
    case value u => exact ⟨u, w', h⟩
    case skip => exact ⟨undef, w', h⟩
    case enter f args =>
      obtain ⟨e, w'', _, ⟨u, _, hx, hR⟩, _⟩ := h []
      exact ⟨u, w'', hx, hR⟩
    case row row args =>
      obtain ⟨u, w'', ⟨hx, hR⟩, _⟩ := h dummyFr []
      exact ⟨u, w'', hx, hR⟩
  | halt x w' => simp only [sUpon] at h
theorem Yd.exists (hRs : RsMono G Rs) {j : Nat} {o : Oper} {a : Act} {E : Env} {R : Value → World → Prop} (h : Yd G P ops Rs W j o a E R) (hE : EMono G E) {w : World} (hw : All G W E w) : ∃ v w', All G W (E.put j (R v)) w' := by
  have hm := h.mono hRs
  rcases h with ⟨_, _, h⟩ | ⟨_, rfl⟩
  · obtain ⟨v, w', hx, hR⟩ := (h w (hw.cls o)).exists
    exact ⟨v, w', (hw.ext hE hx).put hR⟩
  · exact ⟨undef, w, hw.put rfl⟩
theorem sAt.const_eq {o : Oper} {a : Act} {w : World} {u u' : Value} (h : sAt G P W o a w fun v _ => v = u) (h' : sAt G P W o a w fun v _ => v = u') : u = u' := by
  unfold sAt at h h'
  generalize (execOp a.eval o).run P w = r at h h'
  cases r with
  | ok n w' =>
    cases n <;> simp only [sUpon] at h h'
    case value x => exact h.2.symm.trans h'.2
    case skip => exact h.2.symm.trans h'.2
    case enter f args =>
      exact Calls.one_value h h'
    case row row args => exact Rows.one_value h h'
  | halt x w' => simp only [sUpon] at h
theorem Yd.unique {j : Nat} {o : Oper} {a : Act} {E : Env} {R R' : Value → World → Prop} (h : Yd G P ops Rs W j o a E R) (h' : Yd G P ops Rs W j o a E R') {w : World} (hw : Cls G W o E w) : R = R' := by
  rcases h with ⟨hn, ha, h⟩ | ⟨hn, rfl⟩ <;> rcases h' with ⟨hn', ha', h'⟩ | ⟨hn', rfl⟩
  · unfold Allowed at ha ha'
    split at ha
    · rename_i x R0 h0
      simp only [h0] at ha'
      rw [ha.2, ha'.2]
    · rename_i h0
      simp only [h0] at ha'
      split at ha
      · rename_i h1
        simp only [h1] at ha'
        rw [ha, ha']
      · rename_i d h1
        simp only [h1] at ha'
        obtain ⟨u, rfl⟩ := ha
        obtain ⟨u', rfl⟩ := ha'
        rw [(h w hw).const_eq (h' w hw)]
  · rw [hn] at hn'; cases hn'
  · rw [hn] at hn'; cases hn'
  · rfl
theorem Yd.of_same {j : Nat} {o : Oper} {a a' : Act} {E E' : Env} {R : Value → World → Prop} (h : Yd G P ops Rs W j o a E R) (hv : ∀ x, x ∈ o.op.operands ∨ Wtd ops o x → a'.eval x = a.eval x) (he : execOp a'.eval o = execOp a.eval o)
    (hw : Region.wanted o (yielded ops a'.tmps) = Region.wanted o (yielded ops a.tmps)) (hc : ∀ w, Cls G W o E' w → Cls G W o E w) : Yd G P ops Rs W j o a' E' R := by
  have hA : Allowed ops Rs j o a.eval R → Allowed ops Rs j o a'.eval R := by
    unfold Allowed
    split
    · rename_i x R' _
      rintro ⟨h1, h2⟩
      refine ⟨h1, h2.trans ?_⟩
      cases x with
      | none => rfl
      | some y => show R' (a.eval y) = R' (a'.eval y); rw [hv y (h1 y rfl)]
    · exact id
  unfold Yd sAt at *
  rw [he, hw]
  exact h.imp (fun ⟨h1, h2, h3⟩ => ⟨h1, hA h2, fun w hw => h3 w (hc w hw)⟩) id
theorem Env.put_comm (E : Env) {i j : Nat} (p q : World → Prop) : (E.put i p).put j q = (E.put j q).put i p := by
  funext k w
  exact propext ⟨fun ⟨a, b, c⟩ => ⟨b, a, c⟩, fun ⟨a, b, c⟩ => ⟨b, a, c⟩⟩
theorem cls_put {o : Oper} {E : Env} {i : Nat} {p : World → Prop} {w : World} (hi : ∀ e ∈ o.after, Region.binds .any e = true → e.on ≠ i) (h : Cls G W o E w) : Cls G W o (E.put i p) w :=
  ⟨h.1, fun k hk => ⟨fun e => by
    subst e
    obtain ⟨e, he, hb⟩ := Array.any_eq_true'.1 hk
    simp only [Bool.and_eq_true, beq_iff_eq] at hb
    exact absurd hb.2 (hi e he hb.1), h.2 k hk⟩⟩
theorem cls_drop {o : Oper} {E : Env} {i : Nat} {p : World → Prop} {w : World} (h : Cls G W o (E.put i p) w) : Cls G W o E w := ⟨h.1, fun k hk => (h.2 k hk).2⟩

theorem anyS_first (hRs : RsMono G Rs) {Q : Act → World → Prop} {i : Nat} {oi : Oper} (hi : ops[i]? = some oi) (hsel : ∀ (j : Nat) (o : Oper) cs b, ops[j]? = some o → o.op ≠ .select cs b) :
    ∀ (fuel : Nat) (listed : Array Bool) (a : Act) (E : Env) (R : Value → World → Prop), EMono G E → (∃ w, All G W E w) →
      (∀ j oj, ops[j]? = some oj → j ≠ i → listed.getD j true = false → (∀ e ∈ oj.after, Region.binds .any e = true → e.on ≠ i) → oi.apart ops oj = true) →
      i ∈ Region.ready .any ops listed → Yd G P ops Rs W i oi a E R →
      (∀ v, (∃ w, All G W (E.put i (R v)) w) → anyS G P .any ops Rs W Q fuel (listed.setIfInBounds i true) (a.put oi.dst v) (E.put i (R v))) → anyS G P .any ops Rs W Q (fuel + 1) listed a E := by
  have self : ∀ (fuel : Nat) (listed : Array Bool) (a : Act) (E : Env) (R : Value → World → Prop), Yd G P ops Rs W i oi a E R →
      (∀ v, (∃ w, All G W (E.put i (R v)) w) → anyS G P .any ops Rs W Q fuel (listed.setIfInBounds i true) (a.put oi.dst v) (E.put i (R v))) →
      sOp G P ops Rs W i (anyS G P .any ops Rs W Q fuel (listed.setIfInBounds i true)) a E := fun fuel listed a E R hy H => by
    unfold sOp
    simp only [hi]
    exact ⟨R, hy, H⟩
  intro fuel
  induction fuel with
  | zero =>
    intro listed a E R hE hex _ hr hy H
    refine ⟨fun h => (by rw [h] at hr; cases hr), fun j hj => ?_⟩
    by_cases hji : j = i
    · subst hji; exact self _ _ _ _ _ hy H
    · have h1 := ready_mono hj hji
      obtain ⟨w, hw⟩ := hex
      obtain ⟨v, w', hw'⟩ := hy.exists hRs hE hw
      rw [(H v ⟨w', hw'⟩).1] at h1
      cases h1
  | succ fuel ih =>
    intro listed a E R hE hex hfree hr hy H
    refine ⟨fun h => (by rw [h] at hr; cases hr), fun j hj => ?_⟩
    by_cases hji : j = i
    · subst hji; exact self _ _ _ _ _ hy H
    · obtain ⟨w0, hw0⟩ := hex
      obtain ⟨v0, w0', hw0'⟩ := hy.exists hRs hE hw0
      obtain ⟨hjun, oj, hoj, hall⟩ := mem_ready.1 hj
      have hnot : ∀ e ∈ oj.after, Region.binds .any e = true → e.on ≠ i := fun e he hb heq => by
        have h1 := hall e he hb
        have h0 := (mem_ready.1 hr).1
        rw [heq] at h1
        rcases Nat.lt_or_ge i listed.size with h' | h'
        · simp [h'] at h0 h1; rw [h0] at h1; cases h1
        · simp [Array.getElem?_eq_none h'] at h1
      have hap := hfree j oj hoj hji hjun hnot
      obtain ⟨p1, p2, p3⟩ := Oper.apart_spec hap
      have hsi := fun cs b => hsel i oi cs b hi
      have hsj := fun cs b => hsel j oj cs b hoj
      have stepj : ∀ v, (∃ w, All G W (E.put i (R v)) w) → ∃ Rj, Yd G P ops Rs W j oj a E Rj ∧
          ∀ u, (∃ w, All G W ((E.put i (R v)).put j (Rj u)) w) → anyS G P .any ops Rs W Q fuel ((listed.setIfInBounds i true).setIfInBounds j true) ((a.put oi.dst v).put oj.dst u) ((E.put i (R v)).put j (Rj u)) := fun v hv => by
        have h1 := (H v hv).2 j (ready_mono hj hji)
        unfold sOp at h1
        simp only [hoj] at h1
        obtain ⟨Rj, hyj, hK⟩ := h1
        exact ⟨Rj, hyj.of_same (fun x hx => by
          rcases hx with hx | ⟨e, he, hb, d, rfl, hu⟩
          · exact (eval_put_of p1 x hx).symm
          · exact (Act.eval_put fun d' hd hxd => by cases hxd; exact hnot e he hb (hu i oi hi hd).symm).symm) (execOp_put oj hsj a oi.dst v p1).symm (wanted_put oj a oi.dst v p1).symm (fun w hw => cls_put hnot hw), hK⟩
      obtain ⟨Rj, hyj, _⟩ := stepj v0 ⟨w0', hw0'⟩
      unfold sOp
      simp only [hoj]
      refine ⟨Rj, hyj, fun u hu => ?_⟩
      have hfree' : ∀ k ok, ops[k]? = some ok → k ≠ i → (listed.setIfInBounds j true).getD k true = false →
          (∀ e ∈ ok.after, Region.binds .any e = true → e.on ≠ i) → oi.apart ops ok = true := fun k ok hk hki hun hno => by
        refine hfree k ok hk hki ?_ hno
        by_cases hjk : j = k
        · subst hjk; exact hjun
        · rw [getD_set_ne true hjk] at hun; exact hun
      refine ih (listed.setIfInBounds j true) (a.put oj.dst u) (E.put j (Rj u)) R (hE.put (hyj.mono hRs) u) hu hfree' (ready_mono hr (Ne.symm hji))
        (hy.of_same (fun x hx => by
          rcases hx with hx | ⟨e, he, hb, d, rfl, hu⟩
          · exact eval_put_of p3 x hx
          · refine Act.eval_put fun d' hd hxd => ?_
            cases hxd
            have e1 := hu j oj hoj hd
            obtain ⟨_, oi', hoi', halli⟩ := mem_ready.1 hr
            have e2 : oi' = oi := Option.some.inj (hoi'.symm.trans hi)
            subst e2
            have h1 := halli e he hb
            rw [← e1, getD_both hjun] at h1
            cases h1) (execOp_put oi hsi a oj.dst u p3) (wanted_put oi a oj.dst u p3) (fun w hw => cls_drop hw)) ?_
      intro v hv
      rw [Env.put_comm] at hv
      obtain ⟨w1, hw1⟩ := hv
      obtain ⟨Rj', hyj', hK⟩ := stepj v ⟨w1, hw1.drop⟩
      have e := hyj.unique hyj' (hw0.cls oj)
      subst e
      have := hK u ⟨w1, hw1⟩
      rw [Array.setIfInBounds_comm _ _ hji, ← Act.put_comm a v u p2, Env.put_comm]
      rw [Env.put_comm] at this
      rw [Env.put_comm]
      exact this

theorem wp_of_sAt {o : Oper} {a : Act} {w : World} {R : Value → World → Prop} {K : Act → World → Prop} {Q : Exit → Act → World → Prop} (h : sAt G P W o a w R) (hK : ∀ v w', G w w' → R v w' → K (a.put o.dst v) w') : o.wp P a w K Q := by
  unfold sAt at h
  unfold Oper.wp
  generalize (execOp a.eval o).run P w = r at h
  cases r with
  | ok n w' =>
    cases n <;> simp only [sUpon] at h <;> simp only [Oper.upon]
    case value u => exact hK _ _ h.1 h.2
    case skip => exact hK _ _ h.1 h.2
    case enter f args =>
      exact h.mono fun e w'' ⟨u, he, hx, hR⟩ => by subst he; exact hK _ _ hx hR
    case row row args => exact h.mono fun u w'' ⟨hx, hR⟩ => hK _ _ hx hR
  | halt x w' => simp only [sUpon] at h

theorem wpAny_of_anyS (hRs : RsMono G Rs) {Q : Act → World → Prop} {Q' : Exit → Act → World → Prop} (hQ : ∀ a w, Q a w → Q' .normal a w) : ∀ (fuel : Nat) (listed : Array Bool) (a : Act) (E : Env) (w : World), EMono G E → All G W E w →
    anyS G P md ops Rs W Q fuel listed a E → wpAny P md ops Q' fuel listed a w
  | 0, _, _, _, w, _, hw, h => ⟨h.1, hQ _ _ (h.2 w hw)⟩
  | fuel + 1, listed, a, E, w, hE, hw, h => ⟨fun h0 => hQ _ _ (h.1 h0 w hw), fun i hi => by
      have h1 := h.2 i hi
      unfold sOp at h1
      unfold wpOp
      split
      · rename_i ho; simp only [ho] at h1; exact wpAny_of_anyS hRs hQ fuel _ _ _ _ hE hw h1
      · rename_i o ho
        simp only [ho] at h1
        obtain ⟨R, hy, hK⟩ := h1
        have hm := hy.mono hRs
        rcases hy with ⟨hn, _, hs⟩ | ⟨hn, rfl⟩
        · rw [if_pos hn]
          exact .inl (wp_of_sAt (hs w (hw.cls o)) fun v w' hx hR => by
            have hw' := (hw.ext hE hx).put (i := i) hR
            exact wpAny_of_anyS hRs hQ fuel _ _ _ _ (hE.put hm v) hw' (hK v ⟨w', hw'⟩))
        · rw [if_neg (by rw [hn]; exact Bool.false_ne_true)]
          have hw' := hw.put (i := i) (p := fun _ => undef = undef) rfl
          exact wpAny_of_anyS hRs hQ fuel _ _ _ _ (hE.put hm undef) hw' (hK undef ⟨w, hw'⟩)⟩

/-- The walk in the order of the text: operation number k stands next. -/
def wpS (G : World → World → Prop) (P : Program) (ops : Array Oper) (Rs : RsT) (W : World) (Q : Act → World → Prop) : Nat → List Oper → Act → Env → Prop
  | _, [], a, E => ∀ w, All G W E w → Q a w
  | k, o :: rest, a, E => ∃ R, Yd G P ops Rs W k o a E R ∧ ∀ v, (∃ w, All G W (E.put k (R v)) w) → wpS G P ops Rs W Q (k + 1) rest (a.put o.dst v) (E.put k (R v))

theorem anyS_lex (hRs : RsMono G Rs) {Q : Act → World → Prop} (hs : Region.noSelect ops = true) : ∀ (l : List Oper) (k : Nat) (listed : Array Bool) (a : Act) (E : Env), (∀ j, l[j]? = ops[k + j]?) →
    Region.lexFrom .any ops l.length k listed = true → EMono G E → (∃ w, All G W E w) → wpS G P ops Rs W Q k l a E → anyS G P .any ops Rs W Q l.length listed a E
  | [], _, _, _, _, _, hB, _, _, h => ⟨by simpa [Region.lexFrom] using hB, h⟩
  | o :: l, k, listed, a, E, hl, hB, hE, hex, h => by
    have h0 : ops[k]? = some o := by simpa using (hl 0).symm
    simp only [List.length_cons, Region.lexFrom, Bool.and_eq_true] at hB
    obtain ⟨⟨hr, hf⟩, hB'⟩ := hB
    obtain ⟨R, hy, hK⟩ := h
    exact anyS_first hRs h0 (Region.noSelect_spec hs) l.length listed a E R hE hex (Region.free_spec h0 hf) (by simpa using hr) hy
      (fun v hv => anyS_lex hRs hs l (k + 1) _ _ _ (fun j => by have := hl (j + 1); simpa [Nat.add_assoc, Nat.add_comm 1 j] using this) hB' (hE.put (hy.mono hRs) v) hv (hK v hv))

/-- ONE WALK IN THE ORDER OF THE TEXT SERVES EVERY ORDER. -/
theorem wp_region_stab (Rs : RsT) {id : Nat} {Q : Exit → Act → World → Prop} {a : Act} {w : World} {l : List Oper} (hm : P.follows .mixedOrders = true) (hB : Region.lexB .any l.toArray = true) (hRs : RsMono G Rs)
    (h : (∃ w', All G w (fun _ _ => True) w') → wpS G P l.toArray Rs w (Q .normal) 0 l a (fun _ _ => True)) : (Code.region id l.toArray true).wp P Q a w := by
  simp only [Region.lexB, Bool.and_eq_true] at hB
  have hw : All G w (fun _ _ => True) { w with drawn := w.drawn + 1 } := ⟨GOK.draw w, fun _ => trivial⟩
  have hE : EMono G (fun _ _ => True) := fun _ _ _ _ h => h
  refine wp_region_any hm (wpAny_of_anyS (Rs := Rs) (W := w) hRs (Q := Q .normal) (fun _ _ h => h) _ _ _ (fun _ _ => True) _ hE hw ?_)
  have := anyS_lex hRs (W := w) (P := P) hB.1 l 0 (Array.replicate l.toArray.size false) a (fun _ _ => True) (by simp) (by simpa using hB.2) hE ⟨_, hw⟩ (h ⟨_, hw⟩)
  simpa using this

/-! The steps. -/
theorem put_value {a A : Act} {d : Nat} {v : Value} (hlt : d < a.tmps.size) (h : a.put (some d) v = A) : v = A.tmps.getD d undef := by
  subst h
  simp [Act.put, hlt]
/-- What one operation alone comes to. -/
theorem sAt_of_wpList {o : Oper} {a : Act} {w : World} {K : Act → World → Prop} {R : Value → World → Prop} (hn : Region.wanted o (yielded ops a.tmps) = true)
    (h : wpList P ops (Exit.then K fun _ _ _ => False) [o] a w) (hK : ∀ v w', K (a.put o.dst v) w' → G w w' ∧ R v w') (hD : ∀ d w', ¬ K ({ a with defers := d :: a.defers }.put o.dst undef) w') : sAt G P W o a w R := by
  simp only [wpList] at h
  rw [if_pos hn] at h
  rcases h with h | ⟨_, a', w', h⟩
  · unfold Oper.wp at h
    unfold sAt
    generalize (execOp a.eval o).run P w = r at h
    cases r with
    | ok n w' =>
      cases n <;> simp only [Oper.upon, Exit.then] at h <;> simp only [sUpon]
      case value u => exact hK _ _ h
      case skip => exact hK _ _ h
      case defer d => exact absurd h (hD d w')
      case enter f args =>
        refine h.mono fun e w'' he => ?_
        cases e with
        | returned u => exact ⟨u, rfl, (hK _ _ he).1, (hK _ _ he).2⟩
        | panicked c => exact he.elim
        | outgrown => obtain ⟨_, _, he⟩ := he; exact he.elim
      case row row args => exact h.mono fun u w'' he => hK _ _ he
      all_goals exact h
    | halt x w' => cases x <;> simp only [Oper.upon, Exit.then] at h
  · exact h.elim
theorem Env.put_same (E : Env) (k : Nat) (u : Value) : (E.put k fun _ => u = u) = E := by
  funext i w
  exact propext ⟨fun h => h.2, fun h => ⟨fun _ => rfl, h⟩⟩
theorem Env.put_true (E : Env) (k : Nat) : (E.put k fun _ => True) = E := by
  funext i w
  exact propext ⟨fun h => h.2, fun h => ⟨fun _ => trivial, h⟩⟩
theorem put_defers_ne {a : Act} {dst : Option Tmp} {x : Deferred} {A : Act} (hA : A.defers = a.defers) : ({ a with defers := x :: a.defers } : Act).put dst undef ≠ A := by
  intro h
  have e : (({ a with defers := x :: a.defers } : Act).put dst undef).defers = x :: a.defers := by cases dst <;> rfl
  rw [h, hA] at e
  have := congrArg List.length e
  simp at this
theorem wpList_skip {o : Oper} {a : Act} {w : World} {K : Act → World → Prop} (hn : Region.wanted o (yielded ops a.tmps) = false) (h : wpList P ops (Exit.then K fun _ _ _ => False) [o] a w) : K (a.put o.dst undef) w := by
  simp only [wpList] at h
  rw [if_neg (by rw [hn]; exact Bool.false_ne_true)] at h
  exact h

/-- One operation, run alone, hands on one frame, whatever the world. -/
theorem wpS_one {Q : Act → World → Prop} {k : Nat} {o : Oper} {rest : List Oper} {a A : Act} {E : Env} {d : Nat} (hex : ∃ w, All G W E w) (hk : Rs k = none) (hd : o.dst = some d) (hlt : d < a.tmps.size) (hA : A.defers = a.defers)
    (h1 : ∀ w, Cls G W o E w → ∀ K : Act → World → Prop, (∀ w', G w w' → K A w') → wpList P ops (Exit.then K fun _ _ _ => False) [o] a w)
    (h2 : (∃ w, All G W E w) → wpS G P ops Rs W Q (k + 1) rest A E) : wpS G P ops Rs W Q k (o :: rest) a E := by
  obtain ⟨w, hw⟩ := hex
  have run := fun w' (hw' : Cls G W o E w') => h1 w' hw' (fun a' w'' => a' = A ∧ G w' w'') fun w'' hx => ⟨rfl, hx⟩
  by_cases hn : Region.wanted o (yielded ops a.tmps) = true
  · have key : ∀ w', Cls G W o E w' → sAt G P W o a w' fun u _ => a.put o.dst u = A := fun w' hw' =>
      sAt_of_wpList hn (run w' hw') (fun v w'' h => ⟨h.2, h.1⟩) (fun x w'' h => put_defers_ne hA h.1)
    obtain ⟨v, w1, hx, hv⟩ := (key w (hw.cls o)).exists
    refine ⟨fun u _ => u = v, .inl ⟨hn, by unfold Allowed; rw [hk, hd]; exact ⟨v, rfl⟩, fun w' hw' => ?_⟩, fun u hu => ?_⟩
    · have h := run w' hw'
      refine sAt_of_wpList hn h (fun u w'' h => ⟨h.2, ?_⟩) (fun x w'' h => put_defers_ne hA h.1)
      rw [hd] at h hv
      rw [put_value hlt h.1, put_value hlt hv]
    · obtain ⟨w2, hw2⟩ := hu
      have e : u = v := (hw2.2 k).1 rfl
      subst e
      rw [hv]
      show wpS G P ops Rs W Q (k + 1) rest A (E.put k fun _ => u = u)
      rw [Env.put_same]
      exact h2 ⟨w2, hw2.drop⟩
  · have hn' : Region.wanted o (yielded ops a.tmps) = false := by simpa using hn
    have hv := (wpList_skip hn' (run w (hw.cls o))).1
    refine ⟨fun u _ => u = undef, .inr ⟨hn', rfl⟩, fun u hu => ?_⟩
    obtain ⟨w2, hw2⟩ := hu
    have e : u = undef := (hw2.2 k).1 rfl
    subst e
    rw [hv]
    show wpS G P ops Rs W Q (k + 1) rest A (E.put k fun _ => undef = undef)
    rw [Env.put_same]
    exact h2 ⟨w2, hw2.drop⟩
/-- .. one that hands on nothing. -/
theorem wpS_none {Q : Act → World → Prop} {k : Nat} {o : Oper} {rest : List Oper} {a : Act} {E : Env} (_hex : ∃ w, All G W E w) (hk : Rs k = none) (hd : o.dst = none)
    (h1 : ∀ w, Cls G W o E w → ∀ K : Act → World → Prop, (∀ w', G w w' → K a w') → wpList P ops (Exit.then K fun _ _ _ => False) [o] a w)
    (h2 : (∃ w, All G W E w) → wpS G P ops Rs W Q (k + 1) rest a E) : wpS G P ops Rs W Q k (o :: rest) a E := by
  have e : ∀ v, a.put o.dst v = a := fun v => by rw [hd]; rfl
  have run := fun w' (hw' : Cls G W o E w') => h1 w' hw' (fun a' w'' => a' = a ∧ G w' w'') fun w'' hx => ⟨rfl, hx⟩
  by_cases hn : Region.wanted o (yielded ops a.tmps) = true
  · refine ⟨fun _ _ => True, .inl ⟨hn, by unfold Allowed; rw [hk, hd], fun w' hw' => ?_⟩, fun u hu => ?_⟩
    · exact sAt_of_wpList hn (run w' hw') (fun v w'' h => ⟨h.2, trivial⟩) (fun x w'' h => put_defers_ne rfl h.1)
    · rw [e, Env.put_true]
      obtain ⟨w2, hw2⟩ := hu
      exact h2 ⟨w2, hw2.drop⟩
  · have hn' : Region.wanted o (yielded ops a.tmps) = false := by simpa using hn
    refine ⟨fun u _ => u = undef, .inr ⟨hn', rfl⟩, fun u hu => ?_⟩
    obtain ⟨w2, hw2⟩ := hu
    have e' : u = undef := (hw2.2 k).1 rfl
    subst e'
    rw [e]
    show wpS G P ops Rs W Q (k + 1) rest a (E.put k fun _ => undef = undef)
    rw [Env.put_same]
    exact h2 ⟨w2, hw2.drop⟩
/-- One operation of whose value something is said. -/
theorem wpS_rel {Q : Act → World → Prop} {k : Nat} {o : Oper} {rest : List Oper} {a : Act} {E : Env} {d : Nat} (x : Option Operand) (R : Value → Value → World → Prop) (hk : Rs k = some (x, R)) (hx : ∀ y, x = some y → y ∈ o.op.operands ∨ Wtd ops o y) (hd : o.dst = some d) (hlt : d < a.tmps.size) (hn : Region.wanted o (yielded ops a.tmps) = true)
    (h1 : ∀ w, Cls G W o E w → ∀ K : Act → World → Prop, (∀ v w', G w w' → R (evalO a.eval x) v w' → K (a.put (some d) v) w') → wpList P ops (Exit.then K fun _ _ _ => False) [o] a w)
    (h2 : ∀ v w, All G W (E.put k (R (evalO a.eval x) v)) w → R (evalO a.eval x) v w → wpS G P ops Rs W Q (k + 1) rest (a.put (some d) v) (E.put k (R (evalO a.eval x) v))) : wpS G P ops Rs W Q k (o :: rest) a E := by
  refine ⟨R (evalO a.eval x), .inl ⟨hn, by unfold Allowed; rw [hk]; exact ⟨hx, rfl⟩, fun w' hw' => ?_⟩, fun u hu => ?_⟩
  · have h := h1 w' hw' (fun a' w'' => ∃ v, a' = a.put (some d) v ∧ G w' w'' ∧ R (evalO a.eval x) v w'') fun v w'' hx hR => ⟨v, rfl, hx, hR⟩
    refine sAt_of_wpList hn h (fun u w'' h => ?_) (fun x w'' h => ?_)
    · obtain ⟨v, e, hx, hR⟩ := h
      rw [hd] at e
      have e1 := put_value hlt e
      rw [put_value hlt (rfl : a.put (some d) v = a.put (some d) v)] at hR
      rw [e1]
      exact ⟨hx, hR⟩
    · obtain ⟨v, e, _, _⟩ := h
      exact put_defers_ne (a := a) (A := a.put (some d) v) rfl e
  · obtain ⟨w2, hw2⟩ := hu
    rw [hd]
    exact h2 u w2 hw2 ((hw2.2 k).1 rfl)
/-- .. one that hands on nothing (a store). -/
theorem wpS_said {Q : Act → World → Prop} {k : Nat} {o : Oper} {rest : List Oper} {a : Act} {E : Env} (x : Option Operand) (R : Value → Value → World → Prop) (hk : Rs k = some (x, R)) (hx : ∀ y, x = some y → y ∈ o.op.operands ∨ Wtd ops o y) (hd : o.dst = none) (hn : Region.wanted o (yielded ops a.tmps) = true)
    (hR0 : ∀ u v v' w, R u v w → R u v' w)
    (h1 : ∀ w, Cls G W o E w → ∀ K : Act → World → Prop, (∀ w', G w w' → R (evalO a.eval x) undef w' → K a w') → wpList P ops (Exit.then K fun _ _ _ => False) [o] a w)
    (h2 : (∃ w, All G W (E.put k (R (evalO a.eval x) undef)) w) → wpS G P ops Rs W Q (k + 1) rest a (E.put k (R (evalO a.eval x) undef))) : wpS G P ops Rs W Q k (o :: rest) a E := by
  have e : ∀ v, a.put o.dst v = a := fun v => by rw [hd]; rfl
  have hRe : ∀ v, R (evalO a.eval x) v = R (evalO a.eval x) undef := fun v => funext fun w => propext ⟨hR0 _ _ _ _, hR0 _ _ _ _⟩
  refine ⟨R (evalO a.eval x), .inl ⟨hn, by unfold Allowed; rw [hk]; exact ⟨hx, rfl⟩, fun w' hw' => ?_⟩, fun u hu => ?_⟩
  · have h := h1 w' hw' (fun a' w'' => a' = a ∧ G w' w'' ∧ R (evalO a.eval x) undef w'') fun w'' hx hR => ⟨rfl, hx, hR⟩
    exact sAt_of_wpList hn h (fun u w'' h => ⟨h.2.1, hR0 _ _ _ _ h.2.2⟩) (fun x w'' h => put_defers_ne rfl h.1)
  · rw [e]
    rw [hRe u] at hu ⊢
    exact h2 hu
theorem wpS_nil {Q : Act → World → Prop} {k : Nat} {a : Act} {E : Env} (h : ∀ w, All G W E w → Q a w) : wpS G P ops Rs W Q k [] a E := h
end
section
variable {G : World → World → Prop} [GOK G] {P : Program} {ops : Array Oper} {Rs : RsT} {W : World}
def anyL (G : World → World → Prop) (P : Program) (ops : Array Oper) (Rs : RsT) (W : World) (n : Nat) (L : Array Bool → Act → Env → Prop) : Nat → Array Bool → Act → Env → Prop
  | 0, listed, a, E => L listed a E
  | f + 1, listed, a, E =>
    Region.ready .any ops listed ≠ [] ∧ ∀ i ∈ Region.ready .any ops listed, i < n ∧ sOp G P ops Rs W i (anyL G P ops Rs W n L f (listed.setIfInBounds i true)) a E
theorem wpAny_of_anyL (hRs : RsMono G Rs) {n g : Nat} {L : Array Bool → Act → Env → Prop} {Q' : Exit → Act → World → Prop} (hL : ∀ listed a E w, All G W E w → L listed a E → wpAny P .any ops Q' g listed a w) :
    ∀ (f : Nat) (listed : Array Bool) (a : Act) (E : Env) (w : World), EMono G E → All G W E w → anyL G P ops Rs W n L f listed a E → wpAny P .any ops Q' (f + g) listed a w
  | 0, listed, a, E, w, _, hw, h => by rw [Nat.zero_add]; exact hL _ _ _ _ hw h
  | f + 1, listed, a, E, w, hE, hw, h => by
    rw [show f + 1 + g = (f + g) + 1 by omega]
    refine ⟨fun h0 => absurd h0 h.1, fun i hi => ?_⟩
    have h1 := (h.2 i hi).2
    unfold sOp at h1
    unfold wpOp
    split
    · rename_i ho; simp only [ho] at h1; exact wpAny_of_anyL hRs hL f _ _ _ _ hE hw h1
    · rename_i o ho
      simp only [ho] at h1
      obtain ⟨R, hy, hK⟩ := h1
      have hm := hy.mono hRs
      rcases hy with ⟨hn, _, hs⟩ | ⟨hn, rfl⟩
      · rw [if_pos hn]
        exact .inl (wp_of_sAt (hs w (hw.cls o)) fun v w' hx hR => by
          have hw' := (hw.ext hE hx).put (i := i) hR
          exact wpAny_of_anyL hRs hL f _ _ _ _ (hE.put hm v) hw' (hK v ⟨w', hw'⟩))
      · rw [if_neg (by rw [hn]; exact Bool.false_ne_true)]
        have hw' := hw.put (i := i) (p := fun _ => undef = undef) rfl
        exact wpAny_of_anyL hRs hL f _ _ _ _ (hE.put hm undef) hw' (hK undef ⟨w, hw'⟩)
theorem anyL_first (hRs : RsMono G Rs) {n i : Nat} {oi : Oper} {L : Array Bool → Act → Env → Prop} (hi : ops[i]? = some oi) (hsel : ∀ (j : Nat) (o : Oper) cs b, ops[j]? = some o → o.op ≠ .select cs b)
    (hs : Region.sinkB .any ops n = true) (hc : Region.chainB .any ops n = true) (hn : n < ops.size) (hin : i < n)
    (hdone : ∀ listed a E, L listed a E → ∀ j ∈ Region.ready .any ops listed, n ≤ j) :
    ∀ (fuel : Nat) (listed : Array Bool) (a : Act) (E : Env) (R : Value → World → Prop), HeadInv .any ops n listed → EMono G E → (∃ w, All G W E w) →
      (∀ j oj, ops[j]? = some oj → j ≠ i → listed.getD j true = false → (∀ e ∈ oj.after, Region.binds .any e = true → e.on ≠ i) → oi.apart ops oj = true) →
      i ∈ Region.ready .any ops listed → Yd G P ops Rs W i oi a E R →
      (∀ v, (∃ w, All G W (E.put i (R v)) w) → anyL G P ops Rs W n L fuel (listed.setIfInBounds i true) (a.put oi.dst v) (E.put i (R v))) → anyL G P ops Rs W n L (fuel + 1) listed a E := by
  have self : ∀ (fuel : Nat) (listed : Array Bool) (a : Act) (E : Env) (R : Value → World → Prop), Yd G P ops Rs W i oi a E R →
      (∀ v, (∃ w, All G W (E.put i (R v)) w) → anyL G P ops Rs W n L fuel (listed.setIfInBounds i true) (a.put oi.dst v) (E.put i (R v))) →
      sOp G P ops Rs W i (anyL G P ops Rs W n L fuel (listed.setIfInBounds i true)) a E := fun fuel listed a E R hy H => by
    unfold sOp
    simp only [hi]
    exact ⟨R, hy, H⟩
  intro fuel
  induction fuel with
  | zero =>
    intro listed a E R inv hE hex _ hr hy H
    have hun := (mem_ready.1 hr).1
    refine ⟨fun h => (by rw [h] at hr; cases hr), fun j hj => ?_⟩
    have hjn : j < n := by
      rcases Nat.lt_or_ge j n with h | h
      · exact h
      · exact absurd hj (tail_waits hs hc hn inv _ i rfl hin hun j h)
    refine ⟨hjn, ?_⟩
    by_cases hji : j = i
    · subst hji; exact self _ _ _ _ _ hy H
    · obtain ⟨w, hw⟩ := hex
      obtain ⟨v, w', hw'⟩ := hy.exists hRs hE hw
      have := hdone _ _ _ (H v ⟨w', hw'⟩) j (ready_mono hj hji)
      omega
  | succ fuel ih =>
    intro listed a E R inv hE hex hfree hr hy H
    have hun := (mem_ready.1 hr).1
    refine ⟨fun h => (by rw [h] at hr; cases hr), fun j hj => ?_⟩
    have hjn : j < n := by
      rcases Nat.lt_or_ge j n with h | h
      · exact h
      · exact absurd hj (tail_waits hs hc hn inv _ i rfl hin hun j h)
    refine ⟨hjn, ?_⟩
    by_cases hji : j = i
    · subst hji; exact self _ _ _ _ _ hy H
    · obtain ⟨w0, hw0⟩ := hex
      obtain ⟨v0, w0', hw0'⟩ := hy.exists hRs hE hw0
      obtain ⟨hjun, oj, hoj, hall⟩ := mem_ready.1 hj
      have hnot : ∀ e ∈ oj.after, Region.binds .any e = true → e.on ≠ i := fun e he hb heq => by
        have h1 := hall e he hb
        rw [heq, getD_both hun] at h1
        cases h1
      have hap := hfree j oj hoj hji hjun hnot
      obtain ⟨p1, p2, p3⟩ := Oper.apart_spec hap
      have hsi := fun cs b => hsel i oi cs b hi
      have hsj := fun cs b => hsel j oj cs b hoj
      have stepj : ∀ v, (∃ w, All G W (E.put i (R v)) w) → ∃ Rj, Yd G P ops Rs W j oj a E Rj ∧
          ∀ u, (∃ w, All G W ((E.put i (R v)).put j (Rj u)) w) → anyL G P ops Rs W n L fuel ((listed.setIfInBounds i true).setIfInBounds j true) ((a.put oi.dst v).put oj.dst u) ((E.put i (R v)).put j (Rj u)) := fun v hv => by
        have h1 := ((H v hv).2 j (ready_mono hj hji)).2
        unfold sOp at h1
        simp only [hoj] at h1
        obtain ⟨Rj, hyj, hK⟩ := h1
        exact ⟨Rj, hyj.of_same (fun x hx => by
          rcases hx with hx | ⟨e, he, hb, d, rfl, hu⟩
          · exact (eval_put_of p1 x hx).symm
          · exact (Act.eval_put fun d' hd hxd => by cases hxd; exact hnot e he hb (hu i oi hi hd).symm).symm) (execOp_put oj hsj a oi.dst v p1).symm (wanted_put oj a oi.dst v p1).symm (fun w hw => cls_put hnot hw), hK⟩
      obtain ⟨Rj, hyj, _⟩ := stepj v0 ⟨w0', hw0'⟩
      unfold sOp
      simp only [hoj]
      refine ⟨Rj, hyj, fun u hu => ?_⟩
      have hfree' : ∀ k ok, ops[k]? = some ok → k ≠ i → (listed.setIfInBounds j true).getD k true = false →
          (∀ e ∈ ok.after, Region.binds .any e = true → e.on ≠ i) → oi.apart ops ok = true := fun k ok hk hki hun hno => by
        refine hfree k ok hk hki ?_ hno
        by_cases hjk : j = k
        · subst hjk; exact hjun
        · rw [getD_set_ne true hjk] at hun; exact hun
      refine ih (listed.setIfInBounds j true) (a.put oj.dst u) (E.put j (Rj u)) R (inv.set hj hjn) (hE.put (hyj.mono hRs) u) hu hfree' (ready_mono hr (Ne.symm hji))
        (hy.of_same (fun x hx => by
          rcases hx with hx | ⟨e, he, hb, d, rfl, hu⟩
          · exact eval_put_of p3 x hx
          · refine Act.eval_put fun d' hd hxd => ?_
            cases hxd
            have e1 := hu j oj hoj hd
            obtain ⟨_, oi', hoi', halli⟩ := mem_ready.1 hr
            have e2 : oi' = oi := Option.some.inj (hoi'.symm.trans hi)
            subst e2
            have h1 := halli e he hb
            rw [← e1, getD_both hjun] at h1
            cases h1) (execOp_put oi hsi a oj.dst u p3) (wanted_put oi a oj.dst u p3) (fun w hw => cls_drop hw)) ?_
      intro v hv
      rw [Env.put_comm] at hv
      obtain ⟨w1, hw1⟩ := hv
      obtain ⟨Rj', hyj', hK⟩ := stepj v ⟨w1, hw1.drop⟩
      have e := hyj.unique hyj' (hw0.cls oj)
      subst e
      have := hK u ⟨w1, hw1⟩
      rw [Array.setIfInBounds_comm _ _ hji, ← Act.put_comm a v u p2, Env.put_comm]
      rw [Env.put_comm] at this
      rw [Env.put_comm]
      exact this
theorem anyL_lex (hRs : RsMono G Rs) {n g : Nat} {Lq : Act → World → Prop} (hsel : Region.noSelect ops = true) (hs : Region.sinkB .any ops n = true) (hc : Region.chainB .any ops n = true) (hn : n < ops.size) :
    ∀ (l : List Oper) (k : Nat) (listed : Array Bool) (a : Act) (E : Env), (∀ j, j < l.length → l[j]? = ops[k + j]?) → k + l.length = n → HeadInv .any ops n listed →
    Region.lexHead .any ops g l.length k listed = true → EMono G E → (∃ w, All G W E w) → wpS G P ops Rs W Lq k l a E →
    anyL G P ops Rs W n (fun listed' a' E' => Region.seqB .any ops g n listed' = true ∧ ∀ w, All G W E' w → Lq a' w) l.length listed a E
  | [], k, listed, a, E, _, hk, _, hB, _, _, h => by
    have : k = n := by simpa using hk
    subst this
    exact ⟨by simpa [Region.lexHead] using hB, h⟩
  | o :: l, k, listed, a, E, hl, hk, inv, hB, hE, hex, h => by
    have h0 : ops[k]? = some o := by simpa using (hl 0 (by simp)).symm
    simp only [List.length_cons, Region.lexHead, Bool.and_eq_true] at hB
    obtain ⟨⟨hr, hf⟩, hB'⟩ := hB
    have hkn : k < n := by simp only [List.length_cons] at hk; omega
    have hr' : k ∈ Region.ready .any ops listed := by simpa using hr
    obtain ⟨R, hy, hK⟩ := h
    exact anyL_first hRs h0 (Region.noSelect_spec hsel) hs hc hn hkn (fun listed' a' E' hL => seqB_ready hL.1) l.length listed a E R inv hE hex (Region.free_spec h0 hf) hr' hy
      (fun v hv => anyL_lex hRs hsel hs hc hn l (k + 1) _ _ _ (fun j hj => by have := hl (j + 1) (by simp; omega); simpa [Nat.add_assoc, Nat.add_comm 1 j] using this) (by simp only [List.length_cons] at hk; omega) (inv.set hr' hkn) hB' (hE.put (hy.mono hRs) v) hv (hK v hv))
/-- ONE WALK OF WHAT STANDS AHEAD, THEN THE TAIL. -/
theorem wp_region_tail (Rs : RsT) {id : Nat} {Q : Exit → Act → World → Prop} {a : Act} {w : World} {l : List Oper} (n : Nat) (hm : P.follows .mixedOrders = true) (hB : Region.lexTailB .any l.toArray n = true) (hRs : RsMono G Rs)
    (h : (∃ w', All G w (fun _ _ => True) w') → wpS G P l.toArray Rs w (fun a' w' => wpList P l.toArray Q (l.drop n) a' w') 0 (l.take n) a (fun _ _ => True)) : (Code.region id l.toArray true).wp P Q a w := by
  simp only [Region.lexTailB, Bool.and_eq_true, decide_eq_true_eq] at hB
  obtain ⟨⟨⟨⟨hsel, hn⟩, hs⟩, hc⟩, hlex⟩ := hB
  have hn' : n < l.length := by simpa using hn
  have htl : (l.take n).length = n := by simp; omega
  have hdl : (l.drop n).length = l.toArray.size - n := by simp
  have inv0 : HeadInv .any l.toArray n (Array.replicate l.toArray.size false) :=
    ⟨by simp, fun j oj _ hl => (by rw [getD_replicate_false] at hl; cases hl), fun t _ ht => getD_in (by simpa using ht) (getD_replicate_false _ _)⟩
  have hw : All G w (fun _ _ => True) { w with drawn := w.drawn + 1 } := ⟨GOK.draw w, fun _ => trivial⟩
  have hE : EMono G (fun _ _ => True) := fun _ _ _ _ h => h
  refine wp_region_any hm ?_
  have hsz : l.toArray.size = (l.take n).length + (l.drop n).length := by rw [htl, hdl]; omega
  rw [hsz]
  refine wpAny_of_anyL hRs (W := w) (n := n) (L := fun listed' a' E' => Region.seqB .any l.toArray (l.toArray.size - n) n listed' = true ∧ ∀ w', All G w E' w' → wpList P l.toArray Q (l.drop n) a' w')
    (fun listed' a' E' w' hw' hL => ?_) _ _ _ (fun _ _ => True) _ hE hw ?_
  · exact wpAny_of_seq (l.drop n) n listed' a' w' (fun j => by simp) (by rw [hdl]; exact hL.1) (hL.2 w' hw')
  · have := anyL_lex hRs (W := w) (P := P) (g := l.toArray.size - n) hsel hs hc hn (l.take n) 0 (Array.replicate l.toArray.size false) a (fun _ _ => True)
      (fun j hj => by rw [htl] at hj; simp [List.getElem?_take_of_lt hj]) (by rw [htl]; omega) inv0 (by rw [htl]; exact hlex) hE ⟨_, hw⟩ (h ⟨_, hw⟩)
    rw [← hsz]
    exact this
end
end Go.Proofs.YtgcjclglhijchaaDoor.Y
