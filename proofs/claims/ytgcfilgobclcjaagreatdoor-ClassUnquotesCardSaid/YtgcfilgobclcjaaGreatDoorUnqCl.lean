/- ClassUnquotes returns true for every list of texts with places, and leaves what it read as it was: on the conditions that the errors, the tables and the type that errors.As asks for, which the card ties to the program's text, stand in their variables when the call begins. -/
import Derived.Test.YtgcfilgobclcjaaGreatDoorStabG
import Derived.Test.YtgcfilgobclcjaaGreatDoorBse
import Derived.Test.YtgcfilgobclcjaaGreatDoorTxt
namespace Go.Proofs.YtgcfilgobclcjaaGreatDoor.H
open Go Go.RowKit
set_option linter.unusedSectionVars false
open Go.Proofs.YtgcfilgobclcjaaGreatDoor.G (GOK)
/-- A frame that stops as soon as it has been handed a value. -/
def dummyFr : Frame := { fn := 0, tmps := #[undef], todo := [.extern "x" #[], .code (.refuse "x")], defers := [], mode := .run, kind := .normal }

/-- What is said of an operation's value: it may speak of the value of one operand. -/
abbrev RsT := Nat → Option (Option Operand × (Value → Value → World → Prop))
def evalO (ρ : Operand → Value) : Option Operand → Value
  | none => undef
  | some x => ρ x
theorem eval_put_of {ops : Array Oper} {o : Oper} {a : Act} {dst : Option Tmp} {v : Value} (h : ∀ d, dst = some d → d ∉ o.looksAt ops) : ∀ x ∈ o.op.operands, (a.put dst v).eval x = a.eval x :=
  fun x hx => Act.eval_put fun d hd hxd => h d hd (by
    subst hxd
    exact List.mem_append_left _ (List.mem_filterMap.2 ⟨.tmp d, by simpa using hx, rfl⟩))
section
variable {G : World → World → Prop} [GOK G] {P : Program} {ops : Array Oper} {md : Region.Mode} {Rs : RsT} {W : World}

abbrev Env := Nat → World → Prop
def Env.put (E : Env) (i : Nat) (p : World → Prop) : Env := fun j w => (j = i → p w) ∧ E j w
/-- A world that may stand behind some of the region's operations. -/
def All (G : World → World → Prop) (W : World) (E : Env) (w : World) : Prop := G W w ∧ ∀ i, E i w
/-- .. in which an operation may come up: of what ran ahead, that which it waits for is known. -/
def Cls (G : World → World → Prop) (W : World) (o : Oper) (E : Env) (w : World) : Prop := G W w ∧ ∀ i, (o.after.any fun e => Region.binds .any e && e.on == i) = true → E i w

def sUpon (G : World → World → Prop) (P : Program) (_W w : World) (R : Value → World → Prop) : Result Next → Prop
  | .ok (.value u) w' => G w w' ∧ R u w'
  | .ok .skip w' => G w w' ∧ R undef w'
  | .ok (.enter f args) w' => Calls P f args w' fun e w'' => ∃ u, e = .returned u ∧ G w w'' ∧ R u w''
  | .ok (.row row args) w' => Go.Rows P row args w' fun u w'' => G w w'' ∧ R u w''
  | _ => False
def sAt (G : World → World → Prop) (P : Program) (W : World) (o : Oper) (a : Act) (w : World) (R : Value → World → Prop) : Prop := sUpon G P W w R ((execOp a.eval o).run P w)

def Allowed (Rs : RsT) (j : Nat) (o : Oper) (ρ : Operand → Value) (R : Value → World → Prop) : Prop :=
  match Rs j with
  | some (x, R') => (∀ y, x = some y → y ∈ o.op.operands) ∧ R = R' (evalO ρ x)
  | none => match o.dst with
    | none => R = fun _ _ => True
    | some _ => ∃ u, R = fun v _ => v = u
def Yd (G : World → World → Prop) (P : Program) (ops : Array Oper) (Rs : RsT) (W : World) (j : Nat) (o : Oper) (a : Act) (E : Env) (R : Value → World → Prop) : Prop :=
  (Region.wanted o (yielded ops a.tmps) = true ∧ Allowed Rs j o a.eval R ∧ ∀ w, Cls G W o E w → sAt G P W o a w R) ∨
  (Region.wanted o (yielded ops a.tmps) = false ∧ R = fun v _ => v = undef)
def sOp (G : World → World → Prop) (P : Program) (ops : Array Oper) (Rs : RsT) (W : World) (j : Nat) (K : Act → Env → Prop) (a : Act) (E : Env) : Prop :=
  match ops[j]? with
  | none => K a E
  | some o => ∃ R, Yd G P ops Rs W j o a E R ∧ ∀ v, (∃ w, All G W (E.put j (R v)) w) → K (a.put o.dst v) (E.put j (R v))
def anyS (G : World → World → Prop) (P : Program) (md : Region.Mode) (ops : Array Oper) (Rs : RsT) (W : World) (Q : Act → World → Prop) : Nat → Array Bool → Act → Env → Prop
  | 0, listed, a, E => Region.ready md ops listed = [] ∧ ∀ w, All G W E w → Q a w
  | fuel + 1, listed, a, E =>
    (Region.ready md ops listed = [] → ∀ w, All G W E w → Q a w) ∧
    ∀ i ∈ Region.ready md ops listed, sOp G P ops Rs W i (anyS G P md ops Rs W Q fuel (listed.setIfInBounds i true)) a E

theorem stop_frame (v : Value) (w : World) : ∃ o w', step P (lone (dummyFr.finish v) [] w) = .ended o w' :=
  ⟨_, _, step_lone_ended (by simp [dummyFr, Frame.finish, stepG, stepG.exec]; exact ⟨rfl, rfl⟩)⟩
theorem same_stop {m : Machine} {n n' : Nat} {v v' : Value} {w w' : World} (h : runN P n m = .next (lone (dummyFr.finish v) [] w)) (h' : runN P n' m = .next (lone (dummyFr.finish v') [] w')) : v = v' := by
  obtain ⟨o, wd, hd⟩ := stop_frame (P := P) v w
  obtain ⟨o', wd', hd'⟩ := stop_frame (P := P) v' w'
  rcases Nat.lt_trichotomy n n' with hlt | rfl | hlt
  · have e : n' = n + (n' - n - 1 + 1) := by omega
    rw [e, runN_add, h] at h'
    simp [runN, hd] at h'
  · rw [h] at h'
    have e := Stepped.next.inj h'
    simp [lone, dummyFr, Frame.finish] at e
    exact e.2
  · have e : n = n' + (n - n' - 1 + 1) := by omega
    rw [e, runN_add, h'] at h
    simp [runN, hd'] at h
theorem Calls.stops {f : FuncId} {args : Array Value} {w : World} {u : Value} {X : World → Prop} (h : Calls P f args w fun e w'' => ∃ v, e = .returned v ∧ X w'' ∧ v = u) :
    ∃ n w', runN P n (lone (Frame.enter P f args .normal) [dummyFr] w) = .next (lone (dummyFr.finish u) [] w') := by
  obtain ⟨e, w1, fr, ⟨v, rfl, _, rfl⟩, hc, hfn, hl⟩ := h [dummyFr]
  obtain ⟨n, hn⟩ := hc
  refine ⟨n + 1, w1, ?_⟩
  rw [runN_add, hn]
  simp [runN, step_leave_returned hl]
/-- A call hands back one value. -/
theorem Calls.one_value {f : FuncId} {args : Array Value} {w : World} {u u' : Value} {X X' : World → Prop} (h : Calls P f args w fun e w'' => ∃ v, e = .returned v ∧ X w'' ∧ v = u)
    (h' : Calls P f args w fun e w'' => ∃ v, e = .returned v ∧ X' w'' ∧ v = u') : u = u' := by
  obtain ⟨n, w1, hn⟩ := Calls.stops h
  obtain ⟨n', w1', hn'⟩ := Calls.stops h'
  exact same_stop hn hn'
theorem Rows.one_value {row : String} {args : Array Value} {w : World} {u u' : Value} {X X' : World → Prop} (h : Go.Rows P row args w fun v w'' => X w'' ∧ v = u)
    (h' : Go.Rows P row args w fun v w'' => X' w'' ∧ v = u') : u = u' := by
  obtain ⟨v, w1, ⟨_, rfl⟩, n, hn⟩ := h dummyFr []
  obtain ⟨v', w1', ⟨_, rfl⟩, n', hn'⟩ := h' dummyFr []
  exact same_stop hn hn'

def Mono (G : World → World → Prop) (R : Value → World → Prop) : Prop := ∀ v w w', G w w' → R v w → R v w'
def EMono (G : World → World → Prop) (E : Env) : Prop := ∀ i w w', G w w' → E i w → E i w'
def RsMono (G : World → World → Prop) (Rs : RsT) : Prop := ∀ j x R, Rs j = some (x, R) → ∀ u, Mono G (R u)

theorem EMono.put {E : Env} (h : EMono G E) {i : Nat} {R : Value → World → Prop} (hR : Mono G R) (v : Value) : EMono G (E.put i (R v)) :=
  fun j w w' hx ⟨h1, h2⟩ => ⟨fun e => hR _ _ _ hx (h1 e), h j w w' hx h2⟩
theorem Allowed.mono (hRs : RsMono G Rs) {j : Nat} {o : Oper} {ρ : Operand → Value} {R : Value → World → Prop} (h : Allowed Rs j o ρ R) : Mono G R := by
  unfold Allowed at h
  split at h
  · rename_i x R' h'; obtain ⟨_, rfl⟩ := h; exact hRs _ _ _ h' _
  · split at h
    · subst h; exact fun _ _ _ _ e => e
    · obtain ⟨u, rfl⟩ := h; exact fun _ _ _ _ e => e
theorem Yd.mono (hRs : RsMono G Rs) {j : Nat} {o : Oper} {a : Act} {E : Env} {R : Value → World → Prop} (h : Yd G P ops Rs W j o a E R) : Mono G R := by
  rcases h with ⟨_, h, _⟩ | ⟨_, rfl⟩
  · exact h.mono hRs
  · exact fun _ _ _ _ e => e
theorem All.cls {E : Env} {w : World} (h : All G W E w) (o : Oper) : Cls G W o E w := ⟨h.1, fun i _ => h.2 i⟩
theorem All.drop {E : Env} {i : Nat} {p : World → Prop} {w : World} (h : All G W (E.put i p) w) : All G W E w := ⟨h.1, fun j => (h.2 j).2⟩
theorem All.put {E : Env} {i : Nat} {p : World → Prop} {w : World} (h : All G W E w) (hp : p w) : All G W (E.put i p) w := ⟨h.1, fun j => ⟨fun _ => hp, h.2 j⟩⟩
theorem All.ext {E : Env} (hE : EMono G E) {w w' : World} (h : All G W E w) (hx : G w w') : All G W E w' := ⟨GOK.trans h.1 hx, fun i => hE i _ _ hx (h.2 i)⟩
theorem sAt.exists {o : Oper} {a : Act} {w : World} {R : Value → World → Prop} (h : sAt G P W o a w R) : ∃ v w', G w w' ∧ R v w' := by
  unfold sAt at h
  generalize (execOp a.eval o).run P w = r at h
  cases r with
  | ok n w' =>
    cases n <;> simp only [sUpon] at h
    case value u => exact ⟨u, w', h⟩
    case skip => exact ⟨undef, w', h⟩
    case enter f args =>
      obtain ⟨e, w'', _, ⟨u, _, hx, hR⟩, _⟩ := h []
      exact ⟨u, w'', hx, hR⟩
    case row row args =>
      obtain ⟨u, w'', ⟨hx, hR⟩, _⟩ := h dummyFr []
      exact ⟨u, w'', hx, hR⟩
  | halt x w' => simp only [sUpon] at h
theorem Yd.exists (hRs : RsMono G Rs) {j : Nat} {o : Oper} {a : Act} {E : Env} {R : Value → World → Prop} (h : Yd G P ops Rs W j o a E R) (hE : EMono G E) {w : World} (hw : All G W E w) : ∃ v w', All G W (E.put j (R v)) w' := by
  have hm := h.mono hRs
  rcases h with ⟨_, _, h⟩ | ⟨_, rfl⟩
  · obtain ⟨v, w', hx, hR⟩ := (h w (hw.cls o)).exists
    exact ⟨v, w', (hw.ext hE hx).put hR⟩
  · exact ⟨undef, w, hw.put rfl⟩
theorem sAt.const_eq {o : Oper} {a : Act} {w : World} {u u' : Value} (h : sAt G P W o a w fun v _ => v = u) (h' : sAt G P W o a w fun v _ => v = u') : u = u' := by
  unfold sAt at h h'
  generalize (execOp a.eval o).run P w = r at h h'
  cases r with
  | ok n w' =>
    cases n <;> simp only [sUpon] at h h'
    case value x => exact h.2.symm.trans h'.2
    case skip => exact h.2.symm.trans h'.2
    case enter f args =>
      exact Calls.one_value h h'
    case row row args => exact Rows.one_value h h'
  | halt x w' => simp only [sUpon] at h
theorem Yd.unique {j : Nat} {o : Oper} {a : Act} {E : Env} {R R' : Value → World → Prop} (h : Yd G P ops Rs W j o a E R) (h' : Yd G P ops Rs W j o a E R') {w : World} (hw : Cls G W o E w) : R = R' := by
  rcases h with ⟨hn, ha, h⟩ | ⟨hn, rfl⟩ <;> rcases h' with ⟨hn', ha', h'⟩ | ⟨hn', rfl⟩
  · unfold Allowed at ha ha'
    split at ha
    · rename_i x R0 h0
      simp only [h0] at ha'
      rw [ha.2, ha'.2]
    · rename_i h0
      simp only [h0] at ha'
      split at ha
      · rename_i h1
        simp only [h1] at ha'
        rw [ha, ha']
      · rename_i d h1
        simp only [h1] at ha'
        obtain ⟨u, rfl⟩ := ha
        obtain ⟨u', rfl⟩ := ha'
        rw [(h w hw).const_eq (h' w hw)]
  · rw [hn] at hn'; cases hn'
  · rw [hn] at hn'; cases hn'
  · rfl
theorem Yd.of_same {j : Nat} {o : Oper} {a a' : Act} {E E' : Env} {R : Value → World → Prop} (h : Yd G P ops Rs W j o a E R) (hv : ∀ x ∈ o.op.operands, a'.eval x = a.eval x) (he : execOp a'.eval o = execOp a.eval o)
    (hw : Region.wanted o (yielded ops a'.tmps) = Region.wanted o (yielded ops a.tmps)) (hc : ∀ w, Cls G W o E' w → Cls G W o E w) : Yd G P ops Rs W j o a' E' R := by
  have hA : Allowed Rs j o a.eval R → Allowed Rs j o a'.eval R := by
    unfold Allowed
    split
    · rename_i x R' _
      rintro ⟨h1, h2⟩
      refine ⟨h1, h2.trans ?_⟩
      cases x with
      | none => rfl
      | some y => show R' (a.eval y) = R' (a'.eval y); rw [hv y (h1 y rfl)]
    · exact id
  unfold Yd sAt at *
  rw [he, hw]
  exact h.imp (fun ⟨h1, h2, h3⟩ => ⟨h1, hA h2, fun w hw => h3 w (hc w hw)⟩) id
theorem Env.put_comm (E : Env) {i j : Nat} (p q : World → Prop) : (E.put i p).put j q = (E.put j q).put i p := by
  funext k w
  exact propext ⟨fun ⟨a, b, c⟩ => ⟨b, a, c⟩, fun ⟨a, b, c⟩ => ⟨b, a, c⟩⟩
theorem cls_put {o : Oper} {E : Env} {i : Nat} {p : World → Prop} {w : World} (hi : ∀ e ∈ o.after, Region.binds .any e = true → e.on ≠ i) (h : Cls G W o E w) : Cls G W o (E.put i p) w :=
  ⟨h.1, fun k hk => ⟨fun e => by
    subst e
    obtain ⟨e, he, hb⟩ := Array.any_eq_true'.1 hk
    simp only [Bool.and_eq_true, beq_iff_eq] at hb
    exact absurd hb.2 (hi e he hb.1), h.2 k hk⟩⟩
theorem cls_drop {o : Oper} {E : Env} {i : Nat} {p : World → Prop} {w : World} (h : Cls G W o (E.put i p) w) : Cls G W o E w := ⟨h.1, fun k hk => (h.2 k hk).2⟩

theorem anyS_first (hRs : RsMono G Rs) {Q : Act → World → Prop} {i : Nat} {oi : Oper} (hi : ops[i]? = some oi) (hsel : ∀ (j : Nat) (o : Oper) cs b, ops[j]? = some o → o.op ≠ .select cs b) :
    ∀ (fuel : Nat) (listed : Array Bool) (a : Act) (E : Env) (R : Value → World → Prop), EMono G E → (∃ w, All G W E w) →
      (∀ j oj, ops[j]? = some oj → j ≠ i → listed.getD j true = false → (∀ e ∈ oj.after, Region.binds .any e = true → e.on ≠ i) → oi.apart ops oj = true) →
      i ∈ Region.ready .any ops listed → Yd G P ops Rs W i oi a E R →
      (∀ v, (∃ w, All G W (E.put i (R v)) w) → anyS G P .any ops Rs W Q fuel (listed.setIfInBounds i true) (a.put oi.dst v) (E.put i (R v))) → anyS G P .any ops Rs W Q (fuel + 1) listed a E := by
  have self : ∀ (fuel : Nat) (listed : Array Bool) (a : Act) (E : Env) (R : Value → World → Prop), Yd G P ops Rs W i oi a E R →
      (∀ v, (∃ w, All G W (E.put i (R v)) w) → anyS G P .any ops Rs W Q fuel (listed.setIfInBounds i true) (a.put oi.dst v) (E.put i (R v))) →
      sOp G P ops Rs W i (anyS G P .any ops Rs W Q fuel (listed.setIfInBounds i true)) a E := fun fuel listed a E R hy H => by
    unfold sOp
    simp only [hi]
    exact ⟨R, hy, H⟩
  intro fuel
  induction fuel with
  | zero =>
    intro listed a E R hE hex _ hr hy H
    refine ⟨fun h => (by rw [h] at hr; cases hr), fun j hj => ?_⟩
    by_cases hji : j = i
    · subst hji; exact self _ _ _ _ _ hy H
    · have h1 := ready_mono hj hji
      obtain ⟨w, hw⟩ := hex
      obtain ⟨v, w', hw'⟩ := hy.exists hRs hE hw
      rw [(H v ⟨w', hw'⟩).1] at h1
      cases h1
  | succ fuel ih =>
    intro listed a E R hE hex hfree hr hy H
    refine ⟨fun h => (by rw [h] at hr; cases hr), fun j hj => ?_⟩
    by_cases hji : j = i
    · subst hji; exact self _ _ _ _ _ hy H
    · obtain ⟨w0, hw0⟩ := hex
      obtain ⟨v0, w0', hw0'⟩ := hy.exists hRs hE hw0
      obtain ⟨hjun, oj, hoj, hall⟩ := mem_ready.1 hj
      have hnot : ∀ e ∈ oj.after, Region.binds .any e = true → e.on ≠ i := fun e he hb heq => by
        have h1 := hall e he hb
        have h0 := (mem_ready.1 hr).1
        rw [heq] at h1
        rcases Nat.lt_or_ge i listed.size with h' | h'
        · simp [h'] at h0 h1; rw [h0] at h1; cases h1
        · simp [Array.getElem?_eq_none h'] at h1
      have hap := hfree j oj hoj hji hjun hnot
      obtain ⟨p1, p2, p3⟩ := Oper.apart_spec hap
      have hsi := fun cs b => hsel i oi cs b hi
      have hsj := fun cs b => hsel j oj cs b hoj
      have stepj : ∀ v, (∃ w, All G W (E.put i (R v)) w) → ∃ Rj, Yd G P ops Rs W j oj a E Rj ∧
          ∀ u, (∃ w, All G W ((E.put i (R v)).put j (Rj u)) w) → anyS G P .any ops Rs W Q fuel ((listed.setIfInBounds i true).setIfInBounds j true) ((a.put oi.dst v).put oj.dst u) ((E.put i (R v)).put j (Rj u)) := fun v hv => by
        have h1 := (H v hv).2 j (ready_mono hj hji)
        unfold sOp at h1
        simp only [hoj] at h1
        obtain ⟨Rj, hyj, hK⟩ := h1
        exact ⟨Rj, hyj.of_same (fun x hx => (eval_put_of p1 x hx).symm) (execOp_put oj hsj a oi.dst v p1).symm (wanted_put oj a oi.dst v p1).symm (fun w hw => cls_put hnot hw), hK⟩
      obtain ⟨Rj, hyj, _⟩ := stepj v0 ⟨w0', hw0'⟩
      unfold sOp
      simp only [hoj]
      refine ⟨Rj, hyj, fun u hu => ?_⟩
      have hfree' : ∀ k ok, ops[k]? = some ok → k ≠ i → (listed.setIfInBounds j true).getD k true = false →
          (∀ e ∈ ok.after, Region.binds .any e = true → e.on ≠ i) → oi.apart ops ok = true := fun k ok hk hki hun hno => by
        refine hfree k ok hk hki ?_ hno
        by_cases hjk : j = k
        · subst hjk; exact hjun
        · rw [getD_set_ne true hjk] at hun; exact hun
      refine ih (listed.setIfInBounds j true) (a.put oj.dst u) (E.put j (Rj u)) R (hE.put (hyj.mono hRs) u) hu hfree' (ready_mono hr (Ne.symm hji))
        (hy.of_same (eval_put_of p3) (execOp_put oi hsi a oj.dst u p3) (wanted_put oi a oj.dst u p3) (fun w hw => cls_drop hw)) ?_
      intro v hv
      rw [Env.put_comm] at hv
      obtain ⟨w1, hw1⟩ := hv
      obtain ⟨Rj', hyj', hK⟩ := stepj v ⟨w1, hw1.drop⟩
      have e := hyj.unique hyj' (hw0.cls oj)
      subst e
      have := hK u ⟨w1, hw1⟩
      rw [Array.setIfInBounds_comm _ _ hji, ← Act.put_comm a v u p2, Env.put_comm]
      rw [Env.put_comm] at this
      rw [Env.put_comm]
      exact this

theorem wp_of_sAt {o : Oper} {a : Act} {w : World} {R : Value → World → Prop} {K : Act → World → Prop} {Q : Exit → Act → World → Prop} (h : sAt G P W o a w R) (hK : ∀ v w', G w w' → R v w' → K (a.put o.dst v) w') : o.wp P a w K Q := by
  unfold sAt at h
  unfold Oper.wp
  generalize (execOp a.eval o).run P w = r at h
  cases r with
  | ok n w' =>
    cases n <;> simp only [sUpon] at h <;> simp only [Oper.upon]
    case value u => exact hK _ _ h.1 h.2
    case skip => exact hK _ _ h.1 h.2
    case enter f args =>
      exact h.mono fun e w'' ⟨u, he, hx, hR⟩ => by subst he; exact hK _ _ hx hR
    case row row args => exact h.mono fun u w'' ⟨hx, hR⟩ => hK _ _ hx hR
  | halt x w' => simp only [sUpon] at h

theorem wpAny_of_anyS (hRs : RsMono G Rs) {Q : Act → World → Prop} {Q' : Exit → Act → World → Prop} (hQ : ∀ a w, Q a w → Q' .normal a w) : ∀ (fuel : Nat) (listed : Array Bool) (a : Act) (E : Env) (w : World), EMono G E → All G W E w →
    anyS G P md ops Rs W Q fuel listed a E → wpAny P md ops Q' fuel listed a w
  | 0, _, _, _, w, _, hw, h => ⟨h.1, hQ _ _ (h.2 w hw)⟩
  | fuel + 1, listed, a, E, w, hE, hw, h => ⟨fun h0 => hQ _ _ (h.1 h0 w hw), fun i hi => by
      have h1 := h.2 i hi
      unfold sOp at h1
      unfold wpOp
      split
      · rename_i ho; simp only [ho] at h1; exact wpAny_of_anyS hRs hQ fuel _ _ _ _ hE hw h1
      · rename_i o ho
        simp only [ho] at h1
        obtain ⟨R, hy, hK⟩ := h1
        have hm := hy.mono hRs
        rcases hy with ⟨hn, _, hs⟩ | ⟨hn, rfl⟩
        · rw [if_pos hn]
          exact .inl (wp_of_sAt (hs w (hw.cls o)) fun v w' hx hR => by
            have hw' := (hw.ext hE hx).put (i := i) hR
            exact wpAny_of_anyS hRs hQ fuel _ _ _ _ (hE.put hm v) hw' (hK v ⟨w', hw'⟩))
        · rw [if_neg (by rw [hn]; exact Bool.false_ne_true)]
          have hw' := hw.put (i := i) (p := fun _ => undef = undef) rfl
          exact wpAny_of_anyS hRs hQ fuel _ _ _ _ (hE.put hm undef) hw' (hK undef ⟨w, hw'⟩)⟩

/-- The walk in the order of the text: operation number k stands next. -/
def wpS (G : World → World → Prop) (P : Program) (ops : Array Oper) (Rs : RsT) (W : World) (Q : Act → World → Prop) : Nat → List Oper → Act → Env → Prop
  | _, [], a, E => ∀ w, All G W E w → Q a w
  | k, o :: rest, a, E => ∃ R, Yd G P ops Rs W k o a E R ∧ ∀ v, (∃ w, All G W (E.put k (R v)) w) → wpS G P ops Rs W Q (k + 1) rest (a.put o.dst v) (E.put k (R v))

theorem anyS_lex (hRs : RsMono G Rs) {Q : Act → World → Prop} (hs : Region.noSelect ops = true) : ∀ (l : List Oper) (k : Nat) (listed : Array Bool) (a : Act) (E : Env), (∀ j, l[j]? = ops[k + j]?) →
    Region.lexFrom .any ops l.length k listed = true → EMono G E → (∃ w, All G W E w) → wpS G P ops Rs W Q k l a E → anyS G P .any ops Rs W Q l.length listed a E
  | [], _, _, _, _, _, hB, _, _, h => ⟨by simpa [Region.lexFrom] using hB, h⟩
  | o :: l, k, listed, a, E, hl, hB, hE, hex, h => by
    have h0 : ops[k]? = some o := by simpa using (hl 0).symm
    simp only [List.length_cons, Region.lexFrom, Bool.and_eq_true] at hB
    obtain ⟨⟨hr, hf⟩, hB'⟩ := hB
    obtain ⟨R, hy, hK⟩ := h
    exact anyS_first hRs h0 (Region.noSelect_spec hs) l.length listed a E R hE hex (Region.free_spec h0 hf) (by simpa using hr) hy
      (fun v hv => anyS_lex hRs hs l (k + 1) _ _ _ (fun j => by have := hl (j + 1); simpa [Nat.add_assoc, Nat.add_comm 1 j] using this) hB' (hE.put (hy.mono hRs) v) hv (hK v hv))

/-- ONE WALK IN THE ORDER OF THE TEXT SERVES EVERY ORDER. -/
theorem wp_region_stab (Rs : RsT) {id : Nat} {Q : Exit → Act → World → Prop} {a : Act} {w : World} {l : List Oper} (hm : P.follows .mixedOrders = true) (hB : Region.lexB .any l.toArray = true) (hRs : RsMono G Rs)
    (h : (∃ w', All G w (fun _ _ => True) w') → wpS G P l.toArray Rs w (Q .normal) 0 l a (fun _ _ => True)) : (Code.region id l.toArray true).wp P Q a w := by
  simp only [Region.lexB, Bool.and_eq_true] at hB
  have hw : All G w (fun _ _ => True) { w with drawn := w.drawn + 1 } := ⟨GOK.draw w, fun _ => trivial⟩
  have hE : EMono G (fun _ _ => True) := fun _ _ _ _ h => h
  refine wp_region_any hm (wpAny_of_anyS (Rs := Rs) (W := w) hRs (Q := Q .normal) (fun _ _ h => h) _ _ _ (fun _ _ => True) _ hE hw ?_)
  have := anyS_lex hRs (W := w) (P := P) hB.1 l 0 (Array.replicate l.toArray.size false) a (fun _ _ => True) (by simp) (by simpa using hB.2) hE ⟨_, hw⟩ (h ⟨_, hw⟩)
  simpa using this

/-! The steps. -/
theorem put_value {a A : Act} {d : Nat} {v : Value} (hlt : d < a.tmps.size) (h : a.put (some d) v = A) : v = A.tmps.getD d undef := by
  subst h
  simp [Act.put, hlt]
/-- What one operation alone comes to. -/
theorem sAt_of_wpList {o : Oper} {a : Act} {w : World} {K : Act → World → Prop} {R : Value → World → Prop} (hn : Region.wanted o (yielded ops a.tmps) = true)
    (h : wpList P ops (Exit.then K fun _ _ _ => False) [o] a w) (hK : ∀ v w', K (a.put o.dst v) w' → G w w' ∧ R v w') (hD : ∀ d w', ¬ K ({ a with defers := d :: a.defers }.put o.dst undef) w') : sAt G P W o a w R := by
  simp only [wpList] at h
  rw [if_pos hn] at h
  rcases h with h | ⟨_, a', w', h⟩
  · unfold Oper.wp at h
    unfold sAt
    generalize (execOp a.eval o).run P w = r at h
    cases r with
    | ok n w' =>
      cases n <;> simp only [Oper.upon, Exit.then] at h <;> simp only [sUpon]
      case value u => exact hK _ _ h
      case skip => exact hK _ _ h
      case defer d => exact absurd h (hD d w')
      case enter f args =>
        refine h.mono fun e w'' he => ?_
        cases e with
        | returned u => exact ⟨u, rfl, (hK _ _ he).1, (hK _ _ he).2⟩
        | panicked c => exact he.elim
        | outgrown => obtain ⟨_, _, he⟩ := he; exact he.elim
      case row row args => exact h.mono fun u w'' he => hK _ _ he
      all_goals exact h
    | halt x w' => cases x <;> simp only [Oper.upon, Exit.then] at h
  · exact h.elim
theorem Env.put_same (E : Env) (k : Nat) (u : Value) : (E.put k fun _ => u = u) = E := by
  funext i w
  exact propext ⟨fun h => h.2, fun h => ⟨fun _ => rfl, h⟩⟩
theorem Env.put_true (E : Env) (k : Nat) : (E.put k fun _ => True) = E := by
  funext i w
  exact propext ⟨fun h => h.2, fun h => ⟨fun _ => trivial, h⟩⟩
theorem put_defers_ne {a : Act} {dst : Option Tmp} {x : Deferred} {A : Act} (hA : A.defers = a.defers) : ({ a with defers := x :: a.defers } : Act).put dst undef ≠ A := by
  intro h
  have e : (({ a with defers := x :: a.defers } : Act).put dst undef).defers = x :: a.defers := by cases dst <;> rfl
  rw [h, hA] at e
  have := congrArg List.length e
  simp at this
theorem wpList_skip {o : Oper} {a : Act} {w : World} {K : Act → World → Prop} (hn : Region.wanted o (yielded ops a.tmps) = false) (h : wpList P ops (Exit.then K fun _ _ _ => False) [o] a w) : K (a.put o.dst undef) w := by
  simp only [wpList] at h
  rw [if_neg (by rw [hn]; exact Bool.false_ne_true)] at h
  exact h

/-- One operation, run alone, hands on one frame, whatever the world. -/
theorem wpS_one {Q : Act → World → Prop} {k : Nat} {o : Oper} {rest : List Oper} {a A : Act} {E : Env} {d : Nat} (hex : ∃ w, All G W E w) (hk : Rs k = none) (hd : o.dst = some d) (hlt : d < a.tmps.size) (hA : A.defers = a.defers)
    (h1 : ∀ w, Cls G W o E w → ∀ K : Act → World → Prop, (∀ w', G w w' → K A w') → wpList P ops (Exit.then K fun _ _ _ => False) [o] a w)
    (h2 : (∃ w, All G W E w) → wpS G P ops Rs W Q (k + 1) rest A E) : wpS G P ops Rs W Q k (o :: rest) a E := by
  obtain ⟨w, hw⟩ := hex
  have run := fun w' (hw' : Cls G W o E w') => h1 w' hw' (fun a' w'' => a' = A ∧ G w' w'') fun w'' hx => ⟨rfl, hx⟩
  by_cases hn : Region.wanted o (yielded ops a.tmps) = true
  · have key : ∀ w', Cls G W o E w' → sAt G P W o a w' fun u _ => a.put o.dst u = A := fun w' hw' =>
      sAt_of_wpList hn (run w' hw') (fun v w'' h => ⟨h.2, h.1⟩) (fun x w'' h => put_defers_ne hA h.1)
    obtain ⟨v, w1, hx, hv⟩ := (key w (hw.cls o)).exists
    refine ⟨fun u _ => u = v, .inl ⟨hn, by unfold Allowed; rw [hk, hd]; exact ⟨v, rfl⟩, fun w' hw' => ?_⟩, fun u hu => ?_⟩
    · have h := run w' hw'
      refine sAt_of_wpList hn h (fun u w'' h => ⟨h.2, ?_⟩) (fun x w'' h => put_defers_ne hA h.1)
      rw [hd] at h hv
      rw [put_value hlt h.1, put_value hlt hv]
    · obtain ⟨w2, hw2⟩ := hu
      have e : u = v := (hw2.2 k).1 rfl
      subst e
      rw [hv]
      show wpS G P ops Rs W Q (k + 1) rest A (E.put k fun _ => u = u)
      rw [Env.put_same]
      exact h2 ⟨w2, hw2.drop⟩
  · have hn' : Region.wanted o (yielded ops a.tmps) = false := by simpa using hn
    have hv := (wpList_skip hn' (run w (hw.cls o))).1
    refine ⟨fun u _ => u = undef, .inr ⟨hn', rfl⟩, fun u hu => ?_⟩
    obtain ⟨w2, hw2⟩ := hu
    have e : u = undef := (hw2.2 k).1 rfl
    subst e
    rw [hv]
    show wpS G P ops Rs W Q (k + 1) rest A (E.put k fun _ => undef = undef)
    rw [Env.put_same]
    exact h2 ⟨w2, hw2.drop⟩
/-- .. one that hands on nothing. -/
theorem wpS_none {Q : Act → World → Prop} {k : Nat} {o : Oper} {rest : List Oper} {a : Act} {E : Env} (_hex : ∃ w, All G W E w) (hk : Rs k = none) (hd : o.dst = none)
    (h1 : ∀ w, Cls G W o E w → ∀ K : Act → World → Prop, (∀ w', G w w' → K a w') → wpList P ops (Exit.then K fun _ _ _ => False) [o] a w)
    (h2 : (∃ w, All G W E w) → wpS G P ops Rs W Q (k + 1) rest a E) : wpS G P ops Rs W Q k (o :: rest) a E := by
  have e : ∀ v, a.put o.dst v = a := fun v => by rw [hd]; rfl
  have run := fun w' (hw' : Cls G W o E w') => h1 w' hw' (fun a' w'' => a' = a ∧ G w' w'') fun w'' hx => ⟨rfl, hx⟩
  by_cases hn : Region.wanted o (yielded ops a.tmps) = true
  · refine ⟨fun _ _ => True, .inl ⟨hn, by unfold Allowed; rw [hk, hd], fun w' hw' => ?_⟩, fun u hu => ?_⟩
    · exact sAt_of_wpList hn (run w' hw') (fun v w'' h => ⟨h.2, trivial⟩) (fun x w'' h => put_defers_ne rfl h.1)
    · rw [e, Env.put_true]
      obtain ⟨w2, hw2⟩ := hu
      exact h2 ⟨w2, hw2.drop⟩
  · have hn' : Region.wanted o (yielded ops a.tmps) = false := by simpa using hn
    refine ⟨fun u _ => u = undef, .inr ⟨hn', rfl⟩, fun u hu => ?_⟩
    obtain ⟨w2, hw2⟩ := hu
    have e' : u = undef := (hw2.2 k).1 rfl
    subst e'
    rw [e]
    show wpS G P ops Rs W Q (k + 1) rest a (E.put k fun _ => undef = undef)
    rw [Env.put_same]
    exact h2 ⟨w2, hw2.drop⟩
/-- One operation of whose value something is said. -/
theorem wpS_rel {Q : Act → World → Prop} {k : Nat} {o : Oper} {rest : List Oper} {a : Act} {E : Env} {d : Nat} (x : Option Operand) (R : Value → Value → World → Prop) (hk : Rs k = some (x, R)) (hx : ∀ y, x = some y → y ∈ o.op.operands) (hd : o.dst = some d) (hlt : d < a.tmps.size) (hn : Region.wanted o (yielded ops a.tmps) = true)
    (h1 : ∀ w, Cls G W o E w → ∀ K : Act → World → Prop, (∀ v w', G w w' → R (evalO a.eval x) v w' → K (a.put (some d) v) w') → wpList P ops (Exit.then K fun _ _ _ => False) [o] a w)
    (h2 : ∀ v w, All G W (E.put k (R (evalO a.eval x) v)) w → R (evalO a.eval x) v w → wpS G P ops Rs W Q (k + 1) rest (a.put (some d) v) (E.put k (R (evalO a.eval x) v))) : wpS G P ops Rs W Q k (o :: rest) a E := by
  refine ⟨R (evalO a.eval x), .inl ⟨hn, by unfold Allowed; rw [hk]; exact ⟨hx, rfl⟩, fun w' hw' => ?_⟩, fun u hu => ?_⟩
  · have h := h1 w' hw' (fun a' w'' => ∃ v, a' = a.put (some d) v ∧ G w' w'' ∧ R (evalO a.eval x) v w'') fun v w'' hx hR => ⟨v, rfl, hx, hR⟩
    refine sAt_of_wpList hn h (fun u w'' h => ?_) (fun x w'' h => ?_)
    · obtain ⟨v, e, hx, hR⟩ := h
      rw [hd] at e
      have e1 := put_value hlt e
      rw [put_value hlt (rfl : a.put (some d) v = a.put (some d) v)] at hR
      rw [e1]
      exact ⟨hx, hR⟩
    · obtain ⟨v, e, _, _⟩ := h
      exact put_defers_ne (a := a) (A := a.put (some d) v) rfl e
  · obtain ⟨w2, hw2⟩ := hu
    rw [hd]
    exact h2 u w2 hw2 ((hw2.2 k).1 rfl)
/-- .. one that hands on nothing (a store). -/
theorem wpS_said {Q : Act → World → Prop} {k : Nat} {o : Oper} {rest : List Oper} {a : Act} {E : Env} (x : Option Operand) (R : Value → Value → World → Prop) (hk : Rs k = some (x, R)) (hx : ∀ y, x = some y → y ∈ o.op.operands) (hd : o.dst = none) (hn : Region.wanted o (yielded ops a.tmps) = true)
    (hR0 : ∀ u v v' w, R u v w → R u v' w)
    (h1 : ∀ w, Cls G W o E w → ∀ K : Act → World → Prop, (∀ w', G w w' → R (evalO a.eval x) undef w' → K a w') → wpList P ops (Exit.then K fun _ _ _ => False) [o] a w)
    (h2 : (∃ w, All G W (E.put k (R (evalO a.eval x) undef)) w) → wpS G P ops Rs W Q (k + 1) rest a (E.put k (R (evalO a.eval x) undef))) : wpS G P ops Rs W Q k (o :: rest) a E := by
  have e : ∀ v, a.put o.dst v = a := fun v => by rw [hd]; rfl
  have hRe : ∀ v, R (evalO a.eval x) v = R (evalO a.eval x) undef := fun v => funext fun w => propext ⟨hR0 _ _ _ _, hR0 _ _ _ _⟩
  refine ⟨R (evalO a.eval x), .inl ⟨hn, by unfold Allowed; rw [hk]; exact ⟨hx, rfl⟩, fun w' hw' => ?_⟩, fun u hu => ?_⟩
  · have h := h1 w' hw' (fun a' w'' => a' = a ∧ G w' w'' ∧ R (evalO a.eval x) undef w'') fun w'' hx hR => ⟨rfl, hx, hR⟩
    exact sAt_of_wpList hn h (fun u w'' h => ⟨h.2.1, hR0 _ _ _ _ h.2.2⟩) (fun x w'' h => put_defers_ne rfl h.1)
  · rw [e]
    rw [hRe u] at hu ⊢
    exact h2 hu
theorem wpS_nil {Q : Act → World → Prop} {k : Nat} {a : Act} {E : Env} (h : ∀ w, All G W E w → Q a w) : wpS G P ops Rs W Q k [] a E := h
end
section
variable {G : World → World → Prop} [GOK G] {P : Program} {ops : Array Oper} {Rs : RsT} {W : World}
def anyL (G : World → World → Prop) (P : Program) (ops : Array Oper) (Rs : RsT) (W : World) (n : Nat) (L : Array Bool → Act → Env → Prop) : Nat → Array Bool → Act → Env → Prop
  | 0, listed, a, E => L listed a E
  | f + 1, listed, a, E =>
    Region.ready .any ops listed ≠ [] ∧ ∀ i ∈ Region.ready .any ops listed, i < n ∧ sOp G P ops Rs W i (anyL G P ops Rs W n L f (listed.setIfInBounds i true)) a E
theorem wpAny_of_anyL (hRs : RsMono G Rs) {n g : Nat} {L : Array Bool → Act → Env → Prop} {Q' : Exit → Act → World → Prop} (hL : ∀ listed a E w, All G W E w → L listed a E → wpAny P .any ops Q' g listed a w) :
    ∀ (f : Nat) (listed : Array Bool) (a : Act) (E : Env) (w : World), EMono G E → All G W E w → anyL G P ops Rs W n L f listed a E → wpAny P .any ops Q' (f + g) listed a w
  | 0, listed, a, E, w, _, hw, h => by rw [Nat.zero_add]; exact hL _ _ _ _ hw h
  | f + 1, listed, a, E, w, hE, hw, h => by
    rw [show f + 1 + g = (f + g) + 1 by omega]
    refine ⟨fun h0 => absurd h0 h.1, fun i hi => ?_⟩
    have h1 := (h.2 i hi).2
    unfold sOp at h1
    unfold wpOp
    split
    · rename_i ho; simp only [ho] at h1; exact wpAny_of_anyL hRs hL f _ _ _ _ hE hw h1
    · rename_i o ho
      simp only [ho] at h1
      obtain ⟨R, hy, hK⟩ := h1
      have hm := hy.mono hRs
      rcases hy with ⟨hn, _, hs⟩ | ⟨hn, rfl⟩
      · rw [if_pos hn]
        exact .inl (wp_of_sAt (hs w (hw.cls o)) fun v w' hx hR => by
          have hw' := (hw.ext hE hx).put (i := i) hR
          exact wpAny_of_anyL hRs hL f _ _ _ _ (hE.put hm v) hw' (hK v ⟨w', hw'⟩))
      · rw [if_neg (by rw [hn]; exact Bool.false_ne_true)]
        have hw' := hw.put (i := i) (p := fun _ => undef = undef) rfl
        exact wpAny_of_anyL hRs hL f _ _ _ _ (hE.put hm undef) hw' (hK undef ⟨w, hw'⟩)
theorem anyL_first (hRs : RsMono G Rs) {n i : Nat} {oi : Oper} {L : Array Bool → Act → Env → Prop} (hi : ops[i]? = some oi) (hsel : ∀ (j : Nat) (o : Oper) cs b, ops[j]? = some o → o.op ≠ .select cs b)
    (hs : Region.sinkB .any ops n = true) (hc : Region.chainB .any ops n = true) (hn : n < ops.size) (hin : i < n)
    (hdone : ∀ listed a E, L listed a E → ∀ j ∈ Region.ready .any ops listed, n ≤ j) :
    ∀ (fuel : Nat) (listed : Array Bool) (a : Act) (E : Env) (R : Value → World → Prop), HeadInv .any ops n listed → EMono G E → (∃ w, All G W E w) →
      (∀ j oj, ops[j]? = some oj → j ≠ i → listed.getD j true = false → (∀ e ∈ oj.after, Region.binds .any e = true → e.on ≠ i) → oi.apart ops oj = true) →
      i ∈ Region.ready .any ops listed → Yd G P ops Rs W i oi a E R →
      (∀ v, (∃ w, All G W (E.put i (R v)) w) → anyL G P ops Rs W n L fuel (listed.setIfInBounds i true) (a.put oi.dst v) (E.put i (R v))) → anyL G P ops Rs W n L (fuel + 1) listed a E := by
  have self : ∀ (fuel : Nat) (listed : Array Bool) (a : Act) (E : Env) (R : Value → World → Prop), Yd G P ops Rs W i oi a E R →
      (∀ v, (∃ w, All G W (E.put i (R v)) w) → anyL G P ops Rs W n L fuel (listed.setIfInBounds i true) (a.put oi.dst v) (E.put i (R v))) →
      sOp G P ops Rs W i (anyL G P ops Rs W n L fuel (listed.setIfInBounds i true)) a E := fun fuel listed a E R hy H => by
    unfold sOp
    simp only [hi]
    exact ⟨R, hy, H⟩
  intro fuel
  induction fuel with
  | zero =>
    intro listed a E R inv hE hex _ hr hy H
    have hun := (mem_ready.1 hr).1
    refine ⟨fun h => (by rw [h] at hr; cases hr), fun j hj => ?_⟩
    have hjn : j < n := by
      rcases Nat.lt_or_ge j n with h | h
      · exact h
      · exact absurd hj (tail_waits hs hc hn inv _ i rfl hin hun j h)
    refine ⟨hjn, ?_⟩
    by_cases hji : j = i
    · subst hji; exact self _ _ _ _ _ hy H
    · obtain ⟨w, hw⟩ := hex
      obtain ⟨v, w', hw'⟩ := hy.exists hRs hE hw
      have := hdone _ _ _ (H v ⟨w', hw'⟩) j (ready_mono hj hji)
      omega
  | succ fuel ih =>
    intro listed a E R inv hE hex hfree hr hy H
    have hun := (mem_ready.1 hr).1
    refine ⟨fun h => (by rw [h] at hr; cases hr), fun j hj => ?_⟩
    have hjn : j < n := by
      rcases Nat.lt_or_ge j n with h | h
      · exact h
      · exact absurd hj (tail_waits hs hc hn inv _ i rfl hin hun j h)
    refine ⟨hjn, ?_⟩
    by_cases hji : j = i
    · subst hji; exact self _ _ _ _ _ hy H
    · obtain ⟨w0, hw0⟩ := hex
      obtain ⟨v0, w0', hw0'⟩ := hy.exists hRs hE hw0
      obtain ⟨hjun, oj, hoj, hall⟩ := mem_ready.1 hj
      have hnot : ∀ e ∈ oj.after, Region.binds .any e = true → e.on ≠ i := fun e he hb heq => by
        have h1 := hall e he hb
        rw [heq, getD_both hun] at h1
        cases h1
      have hap := hfree j oj hoj hji hjun hnot
      obtain ⟨p1, p2, p3⟩ := Oper.apart_spec hap
      have hsi := fun cs b => hsel i oi cs b hi
      have hsj := fun cs b => hsel j oj cs b hoj
      have stepj : ∀ v, (∃ w, All G W (E.put i (R v)) w) → ∃ Rj, Yd G P ops Rs W j oj a E Rj ∧
          ∀ u, (∃ w, All G W ((E.put i (R v)).put j (Rj u)) w) → anyL G P ops Rs W n L fuel ((listed.setIfInBounds i true).setIfInBounds j true) ((a.put oi.dst v).put oj.dst u) ((E.put i (R v)).put j (Rj u)) := fun v hv => by
        have h1 := ((H v hv).2 j (ready_mono hj hji)).2
        unfold sOp at h1
        simp only [hoj] at h1
        obtain ⟨Rj, hyj, hK⟩ := h1
        exact ⟨Rj, hyj.of_same (fun x hx => (eval_put_of p1 x hx).symm) (execOp_put oj hsj a oi.dst v p1).symm (wanted_put oj a oi.dst v p1).symm (fun w hw => cls_put hnot hw), hK⟩
      obtain ⟨Rj, hyj, _⟩ := stepj v0 ⟨w0', hw0'⟩
      unfold sOp
      simp only [hoj]
      refine ⟨Rj, hyj, fun u hu => ?_⟩
      have hfree' : ∀ k ok, ops[k]? = some ok → k ≠ i → (listed.setIfInBounds j true).getD k true = false →
          (∀ e ∈ ok.after, Region.binds .any e = true → e.on ≠ i) → oi.apart ops ok = true := fun k ok hk hki hun hno => by
        refine hfree k ok hk hki ?_ hno
        by_cases hjk : j = k
        · subst hjk; exact hjun
        · rw [getD_set_ne true hjk] at hun; exact hun
      refine ih (listed.setIfInBounds j true) (a.put oj.dst u) (E.put j (Rj u)) R (inv.set hj hjn) (hE.put (hyj.mono hRs) u) hu hfree' (ready_mono hr (Ne.symm hji))
        (hy.of_same (eval_put_of p3) (execOp_put oi hsi a oj.dst u p3) (wanted_put oi a oj.dst u p3) (fun w hw => cls_drop hw)) ?_
      intro v hv
      rw [Env.put_comm] at hv
      obtain ⟨w1, hw1⟩ := hv
      obtain ⟨Rj', hyj', hK⟩ := stepj v ⟨w1, hw1.drop⟩
      have e := hyj.unique hyj' (hw0.cls oj)
      subst e
      have := hK u ⟨w1, hw1⟩
      rw [Array.setIfInBounds_comm _ _ hji, ← Act.put_comm a v u p2, Env.put_comm]
      rw [Env.put_comm] at this
      rw [Env.put_comm]
      exact this
theorem anyL_lex (hRs : RsMono G Rs) {n g : Nat} {Lq : Act → World → Prop} (hsel : Region.noSelect ops = true) (hs : Region.sinkB .any ops n = true) (hc : Region.chainB .any ops n = true) (hn : n < ops.size) :
    ∀ (l : List Oper) (k : Nat) (listed : Array Bool) (a : Act) (E : Env), (∀ j, j < l.length → l[j]? = ops[k + j]?) → k + l.length = n → HeadInv .any ops n listed →
    Region.lexHead .any ops g l.length k listed = true → EMono G E → (∃ w, All G W E w) → wpS G P ops Rs W Lq k l a E →
    anyL G P ops Rs W n (fun listed' a' E' => Region.seqB .any ops g n listed' = true ∧ ∀ w, All G W E' w → Lq a' w) l.length listed a E
  | [], k, listed, a, E, _, hk, _, hB, _, _, h => by
    have : k = n := by simpa using hk
    subst this
    exact ⟨by simpa [Region.lexHead] using hB, h⟩
  | o :: l, k, listed, a, E, hl, hk, inv, hB, hE, hex, h => by
    have h0 : ops[k]? = some o := by simpa using (hl 0 (by simp)).symm
    simp only [List.length_cons, Region.lexHead, Bool.and_eq_true] at hB
    obtain ⟨⟨hr, hf⟩, hB'⟩ := hB
    have hkn : k < n := by simp only [List.length_cons] at hk; omega
    have hr' : k ∈ Region.ready .any ops listed := by simpa using hr
    obtain ⟨R, hy, hK⟩ := h
    exact anyL_first hRs h0 (Region.noSelect_spec hsel) hs hc hn hkn (fun listed' a' E' hL => seqB_ready hL.1) l.length listed a E R inv hE hex (Region.free_spec h0 hf) hr' hy
      (fun v hv => anyL_lex hRs hsel hs hc hn l (k + 1) _ _ _ (fun j hj => by have := hl (j + 1) (by simp; omega); simpa [Nat.add_assoc, Nat.add_comm 1 j] using this) (by simp only [List.length_cons] at hk; omega) (inv.set hr' hkn) hB' (hE.put (hy.mono hRs) v) hv (hK v hv))
/-- ONE WALK OF WHAT STANDS AHEAD, THEN THE TAIL. -/
theorem wp_region_tail (Rs : RsT) {id : Nat} {Q : Exit → Act → World → Prop} {a : Act} {w : World} {l : List Oper} (n : Nat) (hm : P.follows .mixedOrders = true) (hB : Region.lexTailB .any l.toArray n = true) (hRs : RsMono G Rs)
    (h : (∃ w', All G w (fun _ _ => True) w') → wpS G P l.toArray Rs w (fun a' w' => wpList P l.toArray Q (l.drop n) a' w') 0 (l.take n) a (fun _ _ => True)) : (Code.region id l.toArray true).wp P Q a w := by
  simp only [Region.lexTailB, Bool.and_eq_true, decide_eq_true_eq] at hB
  obtain ⟨⟨⟨⟨hsel, hn⟩, hs⟩, hc⟩, hlex⟩ := hB
  have hn' : n < l.length := by simpa using hn
  have htl : (l.take n).length = n := by simp; omega
  have hdl : (l.drop n).length = l.toArray.size - n := by simp
  have inv0 : HeadInv .any l.toArray n (Array.replicate l.toArray.size false) :=
    ⟨by simp, fun j oj _ hl => (by rw [getD_replicate_false] at hl; cases hl), fun t _ ht => getD_in (by simpa using ht) (getD_replicate_false _ _)⟩
  have hw : All G w (fun _ _ => True) { w with drawn := w.drawn + 1 } := ⟨GOK.draw w, fun _ => trivial⟩
  have hE : EMono G (fun _ _ => True) := fun _ _ _ _ h => h
  refine wp_region_any hm ?_
  have hsz : l.toArray.size = (l.take n).length + (l.drop n).length := by rw [htl, hdl]; omega
  rw [hsz]
  refine wpAny_of_anyL hRs (W := w) (n := n) (L := fun listed' a' E' => Region.seqB .any l.toArray (l.toArray.size - n) n listed' = true ∧ ∀ w', All G w E' w' → wpList P l.toArray Q (l.drop n) a' w')
    (fun listed' a' E' w' hw' hL => ?_) _ _ _ (fun _ _ => True) _ hE hw ?_
  · exact wpAny_of_seq (l.drop n) n listed' a' w' (fun j => by simp) (by rw [hdl]; exact hL.1) (hL.2 w' hw')
  · have := anyL_lex hRs (W := w) (P := P) (g := l.toArray.size - n) hsel hs hc hn (l.take n) 0 (Array.replicate l.toArray.size false) a (fun _ _ => True)
      (fun j hj => by rw [htl] at hj; simp [List.getElem?_take_of_lt hj]) (by rw [htl]; omega) inv0 (by rw [htl]; exact hlex) hE ⟨_, hw⟩ (h ⟨_, hw⟩)
    rw [← hsz]
    exact this
end
end Go.Proofs.YtgcfilgobclcjaaGreatDoor.H
namespace Go.Proofs.YtgcfilgobclcjaaGreatDoor
open Go Go.RowKit
/-- Blocks below B stay; a block above may turn from z to t. -/
def Tn (B : Nat) (z t : Obj) (w w' : World) : Prop := Below B w w' ∧ ∀ k, k < w.heap.size → w'.heap[k]? = w.heap[k]? ∨ (w.heap[k]? = some z ∧ w'.heap[k]? = some t)
instance (B : Nat) (z t : Obj) : G.GOK (Tn B z t) where
  refl w := ⟨Below.refl _ _, fun _ _ => .inl rfl⟩
  trans := fun h k => ⟨h.1.trans k.1, fun i hi => by
    have hi2 := Nat.lt_of_lt_of_le hi h.1.size
    rcases h.2 i hi with e | ⟨e1, e2⟩ <;> rcases k.2 i hi2 with f | ⟨f1, f2⟩
    · exact .inl (f.trans e)
    · exact .inr ⟨e.symm.trans f1, f2⟩
    · exact .inr ⟨e1, f.trans e2⟩
    · exact .inr ⟨e1, f2⟩⟩
  draw w := ⟨⟨rfl, rfl, rfl, Nat.le_refl _, fun _ _ => rfl⟩, fun _ _ => .inl rfl⟩
theorem Tn.of_ext {B : Nat} {z t : Obj} {w w' : World} (h : Ext w w') (hB : B ≤ w.heap.size) : Tn B z t w w' := ⟨h.mono hB, fun k hk => .inl (h.block k hk)⟩
/-- The block has the one content or the other; it has the other. -/
def Bz (z t : Obj) (w : World) (b : Nat) : Prop := w.heap[b]? = some z ∨ w.heap[b]? = some t
def Bt (t : Obj) (w : World) (b : Nat) : Prop := w.heap[b]? = some t
theorem blk_lt {w : World} {b : Nat} {o : Obj} (h : w.heap[b]? = some o) : b < w.heap.size := (Array.getElem?_eq_some_iff.1 h).1
theorem Bz.lt {z t : Obj} {w : World} {b : Nat} (h : Bz z t w b) : b < w.heap.size := h.elim blk_lt blk_lt
theorem Bt.tn {B : Nat} {z t : Obj} {w w' : World} {b : Nat} (h : Bt t w b) (hx : Tn B z t w w') : Bt t w' b := by
  rcases hx.2 b (blk_lt h) with e | ⟨_, e⟩
  · exact e.trans h
  · exact e
theorem Bz.tn {B : Nat} {z t : Obj} {w w' : World} {b : Nat} (h : Bz z t w b) (hx : Tn B z t w w') : Bz z t w' b := by
  rcases hx.2 b h.lt with e | ⟨_, e⟩
  · exact h.elim (fun h => .inl (e.trans h)) (fun h => .inr (e.trans h))
  · exact .inr e
def RMade (B : Nat) (z t : Obj) : Value → Value → World → Prop := fun _ v w => ∃ b, v = .pointer (some ⟨b, 0, none⟩) ∧ B ≤ b ∧ Bz z t w b
def RSet (B : Nat) (t : Obj) : Value → Value → World → Prop := fun u _ w => ∃ b, u = .pointer (some ⟨b, 0, none⟩) ∧ B ≤ b ∧ Bt t w b
/-- Operation ja makes the block, operation js stores into it through slot s. -/
def RsT1 (ja js s B : Nat) (z t : Obj) : H.RsT := fun j => if j = ja then some (none, RMade B z t) else if j = js then some (some (.tmp s), RSet B t) else none
theorem RsT1_mono (ja js s B : Nat) (z t : Obj) : H.RsMono (Tn B z t) (RsT1 ja js s B z t) := by
  intro j x R h u v w w' hx hR
  unfold RsT1 at h
  split at h
  · cases h
    obtain ⟨b, hv, hb, hB⟩ := hR
    exact ⟨b, hv, hb, hB.tn hx⟩
  · split at h
    · cases h
      obtain ⟨b, hv, hb, hB⟩ := hR
      exact ⟨b, hv, hb, hB.tn hx⟩
    · cases h
theorem Tn.store4 {B b : Nat} {w : World} {z0 z1 z2 z3 y0 y1 y2 y3 : Value} {ty : TypeId} (hb : B ≤ b) (h : Bz (.cells #[z0, z1, z2, z3] ty) (.cells #[y0, y1, y2, y3] ty) w b) :
    Tn B (.cells #[z0, z1, z2, z3] ty) (.cells #[y0, y1, y2, y3] ty) w ((((w.setCell ⟨b, 0, none⟩ y0).setCell ⟨b, 1, none⟩ y1).setCell ⟨b, 2, none⟩ y2).setCell ⟨b, 3, none⟩ y3)
      ∧ Bt (.cells #[y0, y1, y2, y3] ty) ((((w.setCell ⟨b, 0, none⟩ y0).setCell ⟨b, 1, none⟩ y1).setCell ⟨b, 2, none⟩ y2).setCell ⟨b, 3, none⟩ y3) b := by
  have hg := grown_set4 w b y0 y1 y2 y3
  have hs : Blk ((((w.setCell ⟨b, 0, none⟩ y0).setCell ⟨b, 1, none⟩ y1).setCell ⟨b, 2, none⟩ y2).setCell ⟨b, 3, none⟩ y3) b #[y0, y1, y2, y3] ty := by
    rcases h with h | h
    · exact Blk.store4 (show Blk w b #[z0, z1, z2, z3] ty from h) y0 y1 y2 y3
    · exact Blk.store4 (show Blk w b #[y0, y1, y2, y3] ty from h) y0 y1 y2 y3
  refine ⟨⟨⟨hg.os, hg.tape, hg.output, hg.size, fun k hk => hg.block k (by have := h.lt; omega) (by simp; omega)⟩, fun k hk => ?_⟩, hs⟩
  by_cases e : k = b
  · subst e
    rcases h with h | h
    · exact .inr ⟨h, hs⟩
    · exact .inl (Eq.trans hs h.symm)
  · exact .inl (hg.block k hk (by simpa using e))
theorem Bz.cells4 {w : World} {b : Nat} {z0 z1 z2 z3 y0 y1 y2 y3 : Value} {ty : TypeId} (h : Bz (.cells #[z0, z1, z2, z3] ty) (.cells #[y0, y1, y2, y3] ty) w b) :
    ∃ x0 x1 x2 x3, Blk w b #[x0, x1, x2, x3] ty ∧ w.cell? ⟨b, 0, none⟩ = some x0 ∧ w.cell? ⟨b, 1, none⟩ = some x1 ∧ w.cell? ⟨b, 2, none⟩ = some x2 ∧ w.cell? ⟨b, 3, none⟩ = some x3 := by
  rcases h with h | h
  · have hb : Blk w b #[z0, z1, z2, z3] ty := h
    exact ⟨z0, z1, z2, z3, hb, hb.cells4⟩
  · have hb : Blk w b #[y0, y1, y2, y3] ty := h
    exact ⟨y0, y1, y2, y3, hb, hb.cells4⟩
end Go.Proofs.YtgcfilgobclcjaaGreatDoor
namespace Go.Proofs.YtgcfilgobclcjaaGreatDoor
open Go Go.RowKit
theorem Tn.store5 {B b : Nat} {w : World} {z0 z1 z2 z3 z4 y0 y1 y2 y3 y4 : Value} {ty : TypeId} (hb : B ≤ b) (h : Bz (.cells #[z0, z1, z2, z3, z4] ty) (.cells #[y0, y1, y2, y3, y4] ty) w b) :
    Tn B (.cells #[z0, z1, z2, z3, z4] ty) (.cells #[y0, y1, y2, y3, y4] ty) w (((((w.setCell ⟨b, 0, none⟩ y0).setCell ⟨b, 1, none⟩ y1).setCell ⟨b, 2, none⟩ y2).setCell ⟨b, 3, none⟩ y3).setCell ⟨b, 4, none⟩ y4)
      ∧ Bt (.cells #[y0, y1, y2, y3, y4] ty) (((((w.setCell ⟨b, 0, none⟩ y0).setCell ⟨b, 1, none⟩ y1).setCell ⟨b, 2, none⟩ y2).setCell ⟨b, 3, none⟩ y3).setCell ⟨b, 4, none⟩ y4) b := by
  have hg : w.grownBy (((((w.setCell ⟨b, 0, none⟩ y0).setCell ⟨b, 1, none⟩ y1).setCell ⟨b, 2, none⟩ y2).setCell ⟨b, 3, none⟩ y3).setCell ⟨b, 4, none⟩ y4) (some b) := grown_trans (grown_set4 w b y0 y1 y2 y3) (grown_set _ _ _ _)
  have hs : Blk (((((w.setCell ⟨b, 0, none⟩ y0).setCell ⟨b, 1, none⟩ y1).setCell ⟨b, 2, none⟩ y2).setCell ⟨b, 3, none⟩ y3).setCell ⟨b, 4, none⟩ y4) b #[y0, y1, y2, y3, y4] ty := by
    rcases h with h | h
    · exact (((((show Blk w b #[z0, z1, z2, z3, z4] ty from h).set 0 y0).set 1 y1).set 2 y2).set 3 y3).set 4 y4
    · exact (((((show Blk w b #[y0, y1, y2, y3, y4] ty from h).set 0 y0).set 1 y1).set 2 y2).set 3 y3).set 4 y4
  refine ⟨⟨⟨hg.os, hg.tape, hg.output, hg.size, fun k hk => hg.block k (by have := h.lt; omega) (by simp; omega)⟩, fun k hk => ?_⟩, hs⟩
  by_cases e : k = b
  · subst e
    rcases h with h | h
    · exact .inr ⟨h, hs⟩
    · exact .inl (Eq.trans hs h.symm)
  · exact .inl (hg.block k hk (by simpa using e))
theorem Bz.cells5 {w : World} {b : Nat} {z0 z1 z2 z3 z4 y0 y1 y2 y3 y4 : Value} {ty : TypeId} (h : Bz (.cells #[z0, z1, z2, z3, z4] ty) (.cells #[y0, y1, y2, y3, y4] ty) w b) :
    ∃ x0 x1 x2 x3 x4, Blk w b #[x0, x1, x2, x3, x4] ty ∧ w.cell? ⟨b, 0, none⟩ = some x0 ∧ w.cell? ⟨b, 1, none⟩ = some x1 ∧ w.cell? ⟨b, 2, none⟩ = some x2 ∧ w.cell? ⟨b, 3, none⟩ = some x3 ∧ w.cell? ⟨b, 4, none⟩ = some x4 := by
  rcases h with h | h
  · have hb : Blk w b #[z0, z1, z2, z3, z4] ty := h
    exact ⟨z0, z1, z2, z3, z4, hb, hb.cells5⟩
  · have hb : Blk w b #[y0, y1, y2, y3, y4] ty := h
    exact ⟨y0, y1, y2, y3, y4, hb, hb.cells5⟩
end Go.Proofs.YtgcfilgobclcjaaGreatDoor
namespace Go.Proofs.YtgcfilgobclcjaaGreatDoor
open Go Go.RowKit
theorem rlet_1 (n : Nat) (h1 : 97 ≤ n) (h2 : n ≤ 122) (w : World) : Calls Tryz.prog 56 #[.int .u8 (n : Int)] w fun e w' => e = .returned (.bool true) ∧ Ext w w' := by
  have d1 : decide ((97 : Int) ≤ (n : Int)) = true := (by simp; omega); have d2 : decide ((n : Int) ≤ 122) = true := (by simp; omega)
  go_enter Tryz.func56, Tryz.ntmps56
  go_wp2
  go_ret
  exact ⟨rfl, by go_grown⟩
theorem rlet_2 (n : Nat) (h1 : 123 ≤ n) (w : World) : Calls Tryz.prog 56 #[.int .u8 (n : Int)] w fun e w' => e = .returned (.bool false) ∧ Ext w w' := by
  have d1 : decide ((97 : Int) ≤ (n : Int)) = true := (by simp; omega); have d2 : decide ((n : Int) ≤ 122) = false := (by simp; omega); have d3 : decide ((65 : Int) ≤ (n : Int)) = true := (by simp; omega); have d4 : decide ((n : Int) ≤ 90) = false := (by simp; omega)
  go_enter Tryz.func56, Tryz.ntmps56
  go_wp2
  go_ret
  exact ⟨rfl, by go_grown⟩
theorem rlet_3 (n : Nat) (h1 : 91 ≤ n) (h2 : n ≤ 96) (w : World) : Calls Tryz.prog 56 #[.int .u8 (n : Int)] w fun e w' => e = .returned (.bool false) ∧ Ext w w' := by
  have d1 : decide ((97 : Int) ≤ (n : Int)) = false := (by simp; omega); have d3 : decide ((65 : Int) ≤ (n : Int)) = true := (by simp; omega); have d4 : decide ((n : Int) ≤ 90) = false := (by simp; omega)
  go_enter Tryz.func56, Tryz.ntmps56
  go_wp2
  go_ret
  exact ⟨rfl, by go_grown⟩
theorem rlet_4 (n : Nat) (h1 : 65 ≤ n) (h2 : n ≤ 90) (w : World) : Calls Tryz.prog 56 #[.int .u8 (n : Int)] w fun e w' => e = .returned (.bool true) ∧ Ext w w' := by
  have d1 : decide ((97 : Int) ≤ (n : Int)) = false := (by simp; omega); have d3 : decide ((65 : Int) ≤ (n : Int)) = true := (by simp; omega); have d4 : decide ((n : Int) ≤ 90) = true := (by simp; omega)
  go_enter Tryz.func56, Tryz.ntmps56
  go_wp2
  go_ret
  exact ⟨rfl, by go_grown⟩
theorem rlet_5 (n : Nat) (h1 : n < 65) (w : World) : Calls Tryz.prog 56 #[.int .u8 (n : Int)] w fun e w' => e = .returned (.bool false) ∧ Ext w w' := by
  have d1 : decide ((97 : Int) ≤ (n : Int)) = false := (by simp; omega); have d3 : decide ((65 : Int) ≤ (n : Int)) = false := (by simp; omega)
  go_enter Tryz.func56, Tryz.ntmps56
  go_wp2
  go_ret
  exact ⟨rfl, by go_grown⟩
def letB (n : Nat) : Bool := (decide (97 ≤ n) && decide (n ≤ 122)) || (decide (65 ≤ n) && decide (n ≤ 90))
theorem rletter_any (n : Nat) (q : Bool) (hq : letB n = q) (w : World) : Calls Tryz.prog 56 #[.int .u8 (n : Int)] w fun e w' => e = .returned (.bool q) ∧ Ext w w' := by
  have hc : (97 ≤ n ∧ n ≤ 122) ∨ 123 ≤ n ∨ (91 ≤ n ∧ n ≤ 96) ∨ (65 ≤ n ∧ n ≤ 90) ∨ n < 65 := by omega
  rcases hc with h | h | h | h | h
  · obtain rfl : true = q := by rw [← hq]; unfold letB; simp; omega
    exact rlet_1 n h.1 h.2 w
  · obtain rfl : false = q := by rw [← hq]; unfold letB; simp; omega
    exact rlet_2 n h w
  · obtain rfl : false = q := by rw [← hq]; unfold letB; simp; omega
    exact rlet_3 n h.1 h.2 w
  · obtain rfl : true = q := by rw [← hq]; unfold letB; simp; omega
    exact rlet_4 n h.1 h.2 w
  · obtain rfl : false = q := by rw [← hq]; unfold letB; simp; omega
    exact rlet_5 n h w
theorem rdig_1 (n : Nat) (h1 : 48 ≤ n) (h2 : n ≤ 57) (w : World) : Calls Tryz.prog 57 #[.int .u8 (n : Int)] w fun e w' => e = .returned (.bool true) ∧ Ext w w' := by
  have d1 : decide ((48 : Int) ≤ (n : Int)) = true := (by simp; omega); have d2 : decide ((n : Int) ≤ 57) = true := (by simp; omega)
  go_enter Tryz.func57, Tryz.ntmps57
  go_wp2
  go_ret
  exact ⟨rfl, by go_grown⟩
theorem rdig_2 (n : Nat) (h1 : 58 ≤ n) (w : World) : Calls Tryz.prog 57 #[.int .u8 (n : Int)] w fun e w' => e = .returned (.bool false) ∧ Ext w w' := by
  have d1 : decide ((48 : Int) ≤ (n : Int)) = true := (by simp; omega); have d2 : decide ((n : Int) ≤ 57) = false := (by simp; omega)
  go_enter Tryz.func57, Tryz.ntmps57
  go_wp2
  go_ret
  exact ⟨rfl, by go_grown⟩
theorem rdig_3 (n : Nat) (h1 : n < 48) (w : World) : Calls Tryz.prog 57 #[.int .u8 (n : Int)] w fun e w' => e = .returned (.bool false) ∧ Ext w w' := by
  have d1 : decide ((48 : Int) ≤ (n : Int)) = false := (by simp; omega)
  go_enter Tryz.func57, Tryz.ntmps57
  go_wp2
  go_ret
  exact ⟨rfl, by go_grown⟩
def digB (n : Nat) : Bool := decide (48 ≤ n) && decide (n ≤ 57)
theorem rdigit_any (n : Nat) (q : Bool) (hq : digB n = q) (w : World) : Calls Tryz.prog 57 #[.int .u8 (n : Int)] w fun e w' => e = .returned (.bool q) ∧ Ext w w' := by
  have hc : (48 ≤ n ∧ n ≤ 57) ∨ 58 ≤ n ∨ n < 48 := by omega
  rcases hc with h | h | h
  · obtain rfl : true = q := by rw [← hq]; unfold digB; simp; omega
    exact rdig_1 n h.1 h.2 w
  · obtain rfl : false = q := by rw [← hq]; unfold digB; simp; omega
    exact rdig_2 n h w
  · obtain rfl : false = q := by rw [← hq]; unfold digB; simp; omega
    exact rdig_3 n h w
theorem rsix_1 (n : Nat) (h1 : 48 ≤ n) (h2 : n ≤ 57) (w : World) : Calls Tryz.prog 55 #[.int .u8 (n : Int)] w fun e w' => e = .returned (.int .i64 ((n : Int) - 48)) ∧ Ext w w' := by
  have hdg := rdig_1 n h1 h2 w
  skip
  go_enter Tryz.func55, Tryz.ntmps55
  go_wp2_with fail
  refine hdg.mono ?_
  rintro e w1 ⟨rfl, hE⟩
  go_wp2
  go_ret
  exact ⟨rfl, hE⟩
theorem rsix_2 (n : Nat) (h1 : 97 ≤ n) (h2 : n ≤ 102) (w : World) : Calls Tryz.prog 55 #[.int .u8 (n : Int)] w fun e w' => e = .returned (.int .i64 ((n : Int) - 97 + 10)) ∧ Ext w w' := by
  have hdg := rdig_2 n (by omega) w
  have d1 : decide ((97 : Int) ≤ (n : Int)) = true := (by simp; omega); have d2 : decide ((n : Int) ≤ 102) = true := (by simp; omega)
  go_enter Tryz.func55, Tryz.ntmps55
  go_wp2_with fail
  refine hdg.mono ?_
  rintro e w1 ⟨rfl, hE⟩
  go_wp2
  go_ret
  exact ⟨rfl, hE⟩
theorem rsix_3 (n : Nat) (h1 : 103 ≤ n) (w : World) : Calls Tryz.prog 55 #[.int .u8 (n : Int)] w fun e w' => e = .returned (.int .i64 (-1)) ∧ Ext w w' := by
  have hdg := rdig_2 n (by omega) w
  have d1 : decide ((97 : Int) ≤ (n : Int)) = true := (by simp; omega); have d2 : decide ((n : Int) ≤ 102) = false := (by simp; omega); have d3 : decide ((65 : Int) ≤ (n : Int)) = true := (by simp; omega); have d4 : decide ((n : Int) ≤ 70) = false := (by simp; omega)
  go_enter Tryz.func55, Tryz.ntmps55
  go_wp2_with fail
  refine hdg.mono ?_
  rintro e w1 ⟨rfl, hE⟩
  go_wp2
  go_ret
  exact ⟨rfl, hE⟩
theorem rsix_4 (n : Nat) (h1 : 71 ≤ n) (h2 : n ≤ 96) (w : World) : Calls Tryz.prog 55 #[.int .u8 (n : Int)] w fun e w' => e = .returned (.int .i64 (-1)) ∧ Ext w w' := by
  have hdg := rdig_2 n (by omega) w
  have d1 : decide ((97 : Int) ≤ (n : Int)) = false := (by simp; omega); have d3 : decide ((65 : Int) ≤ (n : Int)) = true := (by simp; omega); have d4 : decide ((n : Int) ≤ 70) = false := (by simp; omega)
  go_enter Tryz.func55, Tryz.ntmps55
  go_wp2_with fail
  refine hdg.mono ?_
  rintro e w1 ⟨rfl, hE⟩
  go_wp2
  go_ret
  exact ⟨rfl, hE⟩
theorem rsix_5 (n : Nat) (h1 : 65 ≤ n) (h2 : n ≤ 70) (w : World) : Calls Tryz.prog 55 #[.int .u8 (n : Int)] w fun e w' => e = .returned (.int .i64 ((n : Int) - 65 + 10)) ∧ Ext w w' := by
  have hdg := rdig_2 n (by omega) w
  have d1 : decide ((97 : Int) ≤ (n : Int)) = false := (by simp; omega); have d3 : decide ((65 : Int) ≤ (n : Int)) = true := (by simp; omega); have d4 : decide ((n : Int) ≤ 70) = true := (by simp; omega)
  go_enter Tryz.func55, Tryz.ntmps55
  go_wp2_with fail
  refine hdg.mono ?_
  rintro e w1 ⟨rfl, hE⟩
  go_wp2
  go_ret
  exact ⟨rfl, hE⟩
theorem rsix_6 (n : Nat) (h1 : 58 ≤ n) (h2 : n ≤ 64) (w : World) : Calls Tryz.prog 55 #[.int .u8 (n : Int)] w fun e w' => e = .returned (.int .i64 (-1)) ∧ Ext w w' := by
  have hdg := rdig_2 n (by omega) w
  have d1 : decide ((97 : Int) ≤ (n : Int)) = false := (by simp; omega); have d3 : decide ((65 : Int) ≤ (n : Int)) = false := (by simp; omega)
  go_enter Tryz.func55, Tryz.ntmps55
  go_wp2_with fail
  refine hdg.mono ?_
  rintro e w1 ⟨rfl, hE⟩
  go_wp2
  go_ret
  exact ⟨rfl, hE⟩
theorem rsix_7 (n : Nat) (h1 : n < 48) (w : World) : Calls Tryz.prog 55 #[.int .u8 (n : Int)] w fun e w' => e = .returned (.int .i64 (-1)) ∧ Ext w w' := by
  have hdg := rdig_3 n (by omega) w
  have d1 : decide ((97 : Int) ≤ (n : Int)) = false := (by simp; omega); have d3 : decide ((65 : Int) ≤ (n : Int)) = false := (by simp; omega)
  go_enter Tryz.func55, Tryz.ntmps55
  go_wp2_with fail
  refine hdg.mono ?_
  rintro e w1 ⟨rfl, hE⟩
  go_wp2
  go_ret
  exact ⟨rfl, hE⟩
def sixI (n : Nat) : Int := match hx n with
  | some m => (m : Int)
  | none => -1
theorem rsix_any (n : Nat) (v : Int) (hv : sixI n = v) (w : World) : Calls Tryz.prog 55 #[.int .u8 (n : Int)] w fun e w' => e = .returned (.int .i64 v) ∧ Ext w w' := by
  have hc : (48 ≤ n ∧ n ≤ 57) ∨ (97 ≤ n ∧ n ≤ 102) ∨ 103 ≤ n ∨ (71 ≤ n ∧ n ≤ 96) ∨ (65 ≤ n ∧ n ≤ 70) ∨ (58 ≤ n ∧ n ≤ 64) ∨ n < 48 := by omega
  rcases hc with h | h | h | h | h | h | h
  · obtain rfl : (n : Int) - 48 = v := by rw [← hv]; unfold sixI hx; rw [if_pos h]; show _ = ((n - 48 : Nat) : Int); omega
    exact rsix_1 n h.1 h.2 w
  · obtain rfl : (n : Int) - 97 + 10 = v := by rw [← hv]; unfold sixI hx; rw [if_neg (by omega), if_pos h]; show _ = ((n - 87 : Nat) : Int); omega
    exact rsix_2 n h.1 h.2 w
  · obtain rfl : (-1 : Int) = v := by rw [← hv]; unfold sixI hx; rw [if_neg (by omega), if_neg (by omega), if_neg (by omega)]
    exact rsix_3 n h w
  · obtain rfl : (-1 : Int) = v := by rw [← hv]; unfold sixI hx; rw [if_neg (by omega), if_neg (by omega), if_neg (by omega)]
    exact rsix_4 n h.1 h.2 w
  · obtain rfl : (n : Int) - 65 + 10 = v := by rw [← hv]; unfold sixI hx; rw [if_neg (by omega), if_neg (by omega), if_pos h]; show _ = ((n - 55 : Nat) : Int); omega
    exact rsix_5 n h.1 h.2 w
  · obtain rfl : (-1 : Int) = v := by rw [← hv]; unfold sixI hx; rw [if_neg (by omega), if_neg (by omega), if_neg (by omega)]
    exact rsix_6 n h.1 h.2 w
  · obtain rfl : (-1 : Int) = v := by rw [← hv]; unfold sixI hx; rw [if_neg (by omega), if_neg (by omega), if_neg (by omega)]
    exact rsix_7 n h w
/-! Escape -/
def nms : List Nat := [110, 116, 114, 118, 102, 97, 98, 101, 48]
def mns : List Nat := [10, 9, 13, 11, 12, 7, 8, 27, 0]
set_option maxRecDepth 20000 in
theorem index_nms (k : Nat) (hk : k < 9) : ∀ w, (Instr.index 9 (.string ⟨#[110, 116, 114, 118, 102, 97, 98, 101, 48]⟩) (.int .i64 (k : Nat))).run Tryz.prog w = .ok (.int .u8 (nms.getD k 0 : Nat)) w := by
  have hc : k = 0 ∨ k = 1 ∨ k = 2 ∨ k = 3 ∨ k = 4 ∨ k = 5 ∨ k = 6 ∨ k = 7 ∨ k = 8 := by omega
  rcases hc with rfl | rfl | rfl | rfl | rfl | rfl | rfl | rfl | rfl <;> exact fun _ => by kernel_rfl
theorem nms_at (k : Nat) (hk : k < 9) : (#[.int .u8 10, .int .u8 9, .int .u8 13, .int .u8 11, .int .u8 12, .int .u8 7, .int .u8 8, .int .u8 27, .int .u8 0] : Array Value)[k]? = some (.int .u8 (mns.getD k 0 : Nat)) := by
  have hc : k = 0 ∨ k = 1 ∨ k = 2 ∨ k = 3 ∨ k = 4 ∨ k = 5 ∨ k = 6 ∨ k = 7 ∨ k = 8 := by omega
  rcases hc with rfl | rfl | rfl | rfl | rfl | rfl | rfl | rfl | rfl <;> rfl
theorem unq_nms (k : Nat) (hk : k < 9) (C : UInt8) (l : List UInt8) (h : C.toNat = nms.getD k 0) : unq (C :: l) = (mns.getD k 0, 1) := by
  have hC : C = UInt8.ofNat (nms.getD k 0) := by rw [← h]; simp
  subst hC
  clear h
  have hc : k = 0 ∨ k = 1 ∨ k = 2 ∨ k = 3 ∨ k = 4 ∨ k = 5 ∨ k = 6 ∨ k = 7 ∨ k = 8 := by omega
  rcases hc with rfl | rfl | rfl | rfl | rfl | rfl | rfl | rfl | rfl <;> rfl
theorem pun_all (n : Nat) (h : n < 256) : sPunct.getLsbD n = (decide (33 ≤ n) && decide (n ≤ 126) && !letB n && !digB n) := by
  have h1 := List.all_eq_true.1 (show (List.range 256).all (fun n => sPunct.getLsbD n == (decide (33 ≤ n) && decide (n ≤ 126) && !letB n && !digB n)) = true by decide +kernel) n (List.mem_range.2 h)
  simpa using h1
theorem unq_other (C : UInt8) (l : List UInt8) (h : ∀ j, j < 9 → nms.getD j 0 ≠ C.toNat) : unq (C :: l) = if C = 120 then hexOf (C :: l) else if sPunct.getLsbD C.toNat = true then (C.toNat, 1) else (0, 0) := by
  have q : ∀ j, j < 9 → C ≠ UInt8.ofNat (nms.getD j 0) := by
    intro j hj e
    have hc : j = 0 ∨ j = 1 ∨ j = 2 ∨ j = 3 ∨ j = 4 ∨ j = 5 ∨ j = 6 ∨ j = 7 ∨ j = 8 := by omega
    refine h j hj ?_
    rw [e]
    rcases hc with rfl | rfl | rfl | rfl | rfl | rfl | rfl | rfl | rfl <;> rfl
  have q0 : C ≠ 110 := q 0 (by omega)
  have q1 : C ≠ 116 := q 1 (by omega)
  have q2 : C ≠ 114 := q 2 (by omega)
  have q3 : C ≠ 118 := q 3 (by omega)
  have q4 : C ≠ 102 := q 4 (by omega)
  have q5 : C ≠ 97 := q 5 (by omega)
  have q6 : C ≠ 98 := q 6 (by omega)
  have q7 : C ≠ 101 := q 7 (by omega)
  have q8 : C ≠ 48 := q 8 (by omega)
  rw [unq, if_neg q2, if_neg q4, if_neg q3, if_neg q0, if_neg q1, if_neg q6, if_neg q5, if_neg q8, if_neg q7]
set_option maxRecDepth 20000 in
/-- A byte of a text, by its place. -/
theorem idx_at (s : ByteArray) (j : Nat) (z : Int) (hz : z = j) (C : UInt8) (l : List UInt8) (h : rest s j = C :: l) : ∀ w, (Instr.index 9 (.string s) (.int .i64 z)).run Tryz.prog w = .ok (.int .u8 (C.toNat : Int)) w := by
  intro w
  subst hz
  have hlt : j < s.size := by
    have h5 := congrArg List.length h
    unfold rest at h5
    rw [List.length_drop, Array.length_toList] at h5
    simp at h5
    have : s.data.size = s.size := rfl
    omega
  have hget : s[j] = C := by
    unfold rest at h
    rw [List.drop_eq_getElem_cons (by simpa using hlt)] at h
    have h6 := (List.cons.inj h).1
    rw [Array.getElem_toList] at h6
    exact h6
  rw [run_index_string (h := by kernel_rfl), dif_pos ⟨by omega, by omega⟩]
  simp [hget]
theorem rest_uncons (s : ByteArray) (j : Nat) (h : j < s.size) : ∃ C, rest s j = C :: rest s (j + 1) := by
  unfold rest
  exact ⟨_, List.drop_eq_getElem_cons (by rw [Array.length_toList]; exact h)⟩
theorem rest_end (s : ByteArray) (j : Nat) (h : s.size ≤ j) : rest s j = [] := by
  unfold rest
  exact List.drop_eq_nil_of_le (by rw [Array.length_toList]; exact h)
def escN (n : Nat) : Int := if n = 0 then 0 else (n : Int) + 1
set_option maxHeartbeats 2000000 in
set_option maxRecDepth 20000 in
theorem rescape_any (s : ByteArray) (i : Nat) (hs : s.size ≤ 4294967000) (hi : i < s.size) (b n : Nat) (hu : unq (rest s (i + 1)) = (b, n)) (w : World) :
    Calls Tryz.prog 28 #[.string s, .int .i64 (i : Int)] w fun e w' => e = .returned (.tuple #[.int .u8 (b : Int), .int .i64 (escN n)]) ∧ Ext w w' := by
  by_cases h1 : s.size ≤ i + 1
  · rw [rest_end s _ h1] at hu
    obtain ⟨rfl, rfl⟩ : 0 = b ∧ 0 = n := by cases hu; exact ⟨rfl, rfl⟩
    have d1 : decide ((s.size : Int) ≤ (i : Int) + 1) = true := by simp; omega
    go_enter Tryz.func28, Tryz.ntmps28
    go_wp2
    go_ret2
    exact ⟨rfl, by go_grown⟩
  · obtain ⟨C, hC⟩ := rest_uncons s (i + 1) (by omega)
    have d1 : decide ((s.size : Int) ≤ (i : Int) + 1) = false := by simp; omega
    have i1 := idx_at s (i + 1) ((i : Int) + 1) (by omega) C _ hC
    have hc256 := C.toNat_lt
    rw [hC] at hu
    have hx0 : Ext w (w.alloc (.cells #[.int .u8 10, .int .u8 9, .int .u8 13, .int .u8 11, .int .u8 12, .int .u8 7, .int .u8 8, .int .u8 27, .int .u8 0] 5)) := by go_grown
    have HX0 := Lib.hid hx0
    have HB0 := Lib.hid (Blk.new w #[.int .u8 10, .int .u8 9, .int .u8 13, .int .u8 11, .int .u8 12, .int .u8 7, .int .u8 8, .int .u8 27, .int .u8 0] 5)
    have HU := Lib.hid hu
    obtain ⟨c, hcc⟩ : ∃ c, C.toNat = c := ⟨_, rfl⟩
    rw [hcc] at i1 hc256
    have HC := Lib.hid hcc
    have HR := Lib.hid hC
    clear hx0 hu hC hcc
    go_enter Tryz.func28, Tryz.ntmps28
    go_wp2_with fail
    generalize hp : w.heap.size = p at HB0 ⊢
    replace hp := Lib.hid hp
    generalize w.alloc (.cells #[.int .u8 10, .int .u8 9, .int .u8 13, .int .u8 11, .int .u8 12, .int .u8 7, .int .u8 8, .int .u8 27, .int .u8 0] 5) = w0 at HX0 HB0 ⊢
    go_loopw [9] (fun v wr => ∃ k : Nat, k ≤ 9 ∧ v = .int .i64 k ∧ wr = w0 ∧ Hid (∀ j, j < k → nms.getD j 0 ≠ c)) (fun v _ => 9 - (intOf v).toNat)
    case atStart => exact ⟨0, by omega, rfl, by first | rfl | trivial, Lib.hid (fun j hj => by omega)⟩
    case round =>
      obtain ⟨k, hk, rfl, rfl, hno⟩ := hrel
      by_cases hlt : k < 9
      · have hd : decide ((k : Int) < 9) = true := by simp; omega
        have hix := index_nms k hlt
        have hcl := (HB0.out.cell k).trans (nms_at k hlt)
        obtain ⟨nm, hnm⟩ : ∃ nm, nms.getD k 0 = nm := ⟨_, rfl⟩
        obtain ⟨mn, hmn⟩ : ∃ mn, mns.getD k 0 = mn := ⟨_, rfl⟩
        rw [hnm] at hix
        rw [hmn] at hcl
        by_cases he : c = nm
        · have hun := unq_nms k hlt C (rest s (i + 1 + 1)) (by rw [HC.out, hnm, he])
          rw [HU.out, hmn] at hun
          obtain ⟨rfl, rfl⟩ : b = mn ∧ n = 1 := by cases hun; exact ⟨rfl, rfl⟩
          subst he
          clear hun hnm hmn hno HU
          go_wp2_with fail
          go_ret2
          exact ⟨rfl, HX0.out⟩
        · have hq : ((c : Int) == (nm : Int)) = false := by simp; omega
          have HN := Lib.hid (show ∀ j, j < k + 1 → nms.getD j 0 ≠ c from fun j hj => by
            by_cases e : j = k
            · subst e; rw [hnm]; exact fun e2 => he e2.symm
            · exact hno.out j (by omega))
          clear hnm hmn he hno hcl
          go_wp2_with fail
          go_roundw
          case rel => exact ⟨k + 1, by omega, by go_num, by first | rfl | trivial, HN⟩
          case measure => simp [intOf]; omega
      · obtain rfl : k = 9 := by omega
        have hot := unq_other C (rest s (i + 1 + 1)) (fun j hj => by rw [HC.out]; exact hno.out j hj)
        rw [HU.out, HC.out] at hot
        clear hno HU HB0 hlt hk
        by_cases h120C : C = 120
        · have h120 : c = 120 := by rw [← HC.out, h120C]; rfl
          rw [if_pos h120C] at hot
          subst h120
          by_cases h3 : i + 3 < s.size
          · obtain ⟨X, hX⟩ := rest_uncons s (i + 1 + 1) (by omega)
            obtain ⟨Y, hY⟩ := rest_uncons s (i + 1 + 1 + 1) (by omega)
            have i2 := idx_at s (i + 1 + 1) ((i : Int) + 2) (by omega) X _ hX
            have i3 := idx_at s (i + 1 + 1 + 1) ((i : Int) + 3) (by omega) Y _ hY
            have d3 : decide ((i : Int) + 3 < (s.size : Int)) = true := by simp; omega
            rw [hX, hY] at hot
            have hhx : hexOf (C :: X :: Y :: rest s (i + 1 + 1 + 1 + 1)) = match hx X.toNat, hx Y.toNat with
              | some m, some n => (16 * m + n, 3)
              | _, _ => (0, 0) := rfl
            rw [hhx] at hot
            have hxl := X.toNat_lt
            have hyl := Y.toNat_lt
            obtain ⟨x, hxe⟩ : ∃ x, X.toNat = x := ⟨_, rfl⟩
            obtain ⟨y, hye⟩ : ∃ y, Y.toNat = y := ⟨_, rfl⟩
            rw [hxe] at hot i2 hxl
            rw [hye] at hot i3 hyl
            have HSX := Lib.hid (fun v hv w => rsix_any x v hv w)
            have HSY := Lib.hid (fun v hv w => rsix_any y v hv w)
            clear hX hY hhx hxe hye h120C HR HC i1 d1
            cases hxx : Go.Proofs.YtgcfilgobclcjaaGreatDoor.hx x with
            | none =>
              rw [hxx] at hot
              obtain ⟨rfl, rfl⟩ : b = 0 ∧ n = 0 := by cases hot; exact ⟨rfl, rfl⟩
              have HA := Lib.hid (HSX.out (-1) (by unfold sixI; rw [hxx]))
              clear hot hxx HSX HSY
              go_wp2_with fail
              refine (HA.out _).mono ?_
              rintro e w1 ⟨rfl, hE1⟩
              have HE1 := Lib.hid (bel_call HX0.out hE1)
              clear hE1
              go_wp2_with fail
              go_ret2
              exact ⟨rfl, HE1.out⟩
            | some m =>
              have hm16 : m < 16 := by
                unfold Go.Proofs.YtgcfilgobclcjaaGreatDoor.hx at hxx
                split at hxx
                · cases hxx; omega
                · split at hxx
                  · cases hxx; omega
                  · split at hxx
                    · cases hxx; omega
                    · cases hxx
              rw [hxx] at hot
              have HA := Lib.hid (HSX.out (m : Int) (by unfold sixI; rw [hxx]))
              cases hyy : Go.Proofs.YtgcfilgobclcjaaGreatDoor.hx y with
              | none =>
                rw [hyy] at hot
                obtain ⟨rfl, rfl⟩ : b = 0 ∧ n = 0 := by cases hot; exact ⟨rfl, rfl⟩
                have HB := Lib.hid (HSY.out (-1) (by unfold sixI; rw [hyy]))
                have g1 : decide ((0 : Int) ≤ (m : Int)) = true := by simp
                clear hot hxx hyy HSX HSY
                go_wp2_with fail
                refine (HA.out _).mono ?_
                rintro e w1 ⟨rfl, hE1⟩
                have HE1 := Lib.hid (bel_call HX0.out hE1)
                clear hE1
                go_wp2_with fail
                refine (HB.out _).mono ?_
                rintro e w2 ⟨rfl, hE2⟩
                have HE2 := Lib.hid (bel_call HE1.out hE2)
                clear hE2
                go_wp2_with fail
                go_ret2
                exact ⟨rfl, HE2.out⟩
              | some q =>
                have hq16 : q < 16 := by
                  unfold Go.Proofs.YtgcfilgobclcjaaGreatDoor.hx at hyy
                  split at hyy
                  · cases hyy; omega
                  · split at hyy
                    · cases hyy; omega
                    · split at hyy
                      · cases hyy; omega
                      · cases hyy
                rw [hyy] at hot
                obtain ⟨rfl, rfl⟩ : b = 16 * m + q ∧ n = 3 := by cases hot; exact ⟨rfl, rfl⟩
                have HB := Lib.hid (HSY.out (q : Int) (by unfold sixI; rw [hyy]))
                have g1 : decide ((0 : Int) ≤ (m : Int)) = true := by simp
                have g2 : decide ((0 : Int) ≤ (q : Int)) = true := by simp
                have hbv : (((16 * m + q : Nat)) : Int) = 16 * (m : Int) + q := by omega
                have hwr : IntKind.u8.wrap (16 * (m : Int) + q) = 16 * (m : Int) + q := IntWalk.u8_in _ (by omega)
                have HBV := Lib.hid hbv
                clear hot hxx hyy HSX HSY hbv
                go_wp2_with fail
                refine (HA.out _).mono ?_
                rintro e w1 ⟨rfl, hE1⟩
                have HE1 := Lib.hid (bel_call HX0.out hE1)
                clear hE1
                go_wp2_with fail
                refine (HB.out _).mono ?_
                rintro e w2 ⟨rfl, hE2⟩
                have HE2 := Lib.hid (bel_call HE1.out hE2)
                clear hE2 HE1
                go_wp2_with fail
                refine G.wp_region_stab (G := Ext) (fun _ => none) (by kernel_rfl) (by kernel_rfl) (fun _ _ h => by cases h) (fun hex => ?_)
                iterate 4
                  (refine G.wpS_one (A := ?_) hex rfl rfl (by simp) ?_ ?_ ?_
                   rotate_left 2
                   · intro w' hC K hK
                     go_wp2_with (fail)
                     refine hK _ ?_
                     first | exact Below.refl _ _ | assumption | ((repeat' (first | (with_reducible exact Below.refl _ _) | (with_reducible assumption) | (with_reducible refine below_drewN ?_ _) | (with_reducible refine Below.alloc ?_ ?_ _) | (with_reducible refine Below.drew ?_) | (with_reducible refine Below.setCell ?_ ?_ _) | (with_reducible refine Below.trans ?_ (Below.mono (by with_reducible assumption) ?_)) | go_size)))
                   rotate_left 1
                   · rfl
                   clear hex; intro hex)
                refine G.wpS_one (A := ?_) hex rfl rfl (by simp) ?_ ?_ ?_
                rotate_left 2
                · intro w' hC K hK
                  go_wp2_with (refine (HA.out _).mono ?_; rintro e wq ⟨rfl, hEq⟩)
                  refine hK _ ?_
                  first | exact Below.refl _ _ | assumption | ((repeat' (first | (with_reducible exact Below.refl _ _) | (with_reducible assumption) | (with_reducible refine below_drewN ?_ _) | (with_reducible refine Below.alloc ?_ ?_ _) | (with_reducible refine Below.drew ?_) | (with_reducible refine Below.setCell ?_ ?_ _) | (with_reducible refine Below.trans ?_ (Below.mono (by with_reducible assumption) ?_)) | go_size)))
                rotate_left 1
                · rfl
                clear hex; intro hex
                iterate 5
                  (refine G.wpS_one (A := ?_) hex rfl rfl (by simp) ?_ ?_ ?_
                   rotate_left 2
                   · intro w' hC K hK
                     go_wp2_with (fail)
                     refine hK _ ?_
                     first | exact Below.refl _ _ | assumption | ((repeat' (first | (with_reducible exact Below.refl _ _) | (with_reducible assumption) | (with_reducible refine below_drewN ?_ _) | (with_reducible refine Below.alloc ?_ ?_ _) | (with_reducible refine Below.drew ?_) | (with_reducible refine Below.setCell ?_ ?_ _) | (with_reducible refine Below.trans ?_ (Below.mono (by with_reducible assumption) ?_)) | go_size)))
                   rotate_left 1
                   · rfl
                   clear hex; intro hex)
                refine G.wpS_one (A := ?_) hex rfl rfl (by simp) ?_ ?_ ?_
                rotate_left 2
                · intro w' hC K hK
                  go_wp2_with (refine (HB.out _).mono ?_; rintro e wq ⟨rfl, hEq⟩)
                  refine hK _ ?_
                  first | exact Below.refl _ _ | assumption | ((repeat' (first | (with_reducible exact Below.refl _ _) | (with_reducible assumption) | (with_reducible refine below_drewN ?_ _) | (with_reducible refine Below.alloc ?_ ?_ _) | (with_reducible refine Below.drew ?_) | (with_reducible refine Below.setCell ?_ ?_ _) | (with_reducible refine Below.trans ?_ (Below.mono (by with_reducible assumption) ?_)) | go_size)))
                rotate_left 1
                · rfl
                clear hex; intro hex
                iterate 4
                  (refine G.wpS_one (A := ?_) hex rfl rfl (by simp) ?_ ?_ ?_
                   rotate_left 2
                   · intro w' hC K hK
                     go_wp2_with (fail)
                     refine hK _ ?_
                     first | exact Below.refl _ _ | assumption | ((repeat' (first | (with_reducible exact Below.refl _ _) | (with_reducible assumption) | (with_reducible refine below_drewN ?_ _) | (with_reducible refine Below.alloc ?_ ?_ _) | (with_reducible refine Below.drew ?_) | (with_reducible refine Below.setCell ?_ ?_ _) | (with_reducible refine Below.trans ?_ (Below.mono (by with_reducible assumption) ?_)) | go_size)))
                   rotate_left 1
                   · rfl
                   clear hex; intro hex)
                refine G.wpS_nil fun w4 hAll => ?_
                have HE4 := Lib.hid (bel_call HE2.out hAll.1)
                clear hAll hex HE2
                go_wp2_with fail
                go_ret2
                rw [HBV.out]
                exact ⟨rfl, HE4.out⟩
          · have d3 : decide ((i : Int) + 3 < (s.size : Int)) = false := by simp; omega
            have hh0 : hexOf (C :: rest s (i + 1 + 1)) = (0, 0) := by
              by_cases h2 : i + 2 < s.size
              · obtain ⟨X, hX⟩ := rest_uncons s (i + 1 + 1) (by omega)
                rw [hX, rest_end s _ (by omega)]; rfl
              · rw [rest_end s _ (by omega)]; rfl
            rw [hh0] at hot
            obtain ⟨rfl, rfl⟩ : b = 0 ∧ n = 0 := by cases hot; exact ⟨rfl, rfl⟩
            clear hot hh0 h120C HR
            go_wp2_with fail
            go_ret2
            exact ⟨rfl, HX0.out⟩
        · have hne : ((c : Int) == 120) = false := by
            have : c ≠ 120 := fun e => h120C (UInt8.toNat_inj.1 (by rw [HC.out, e]; rfl))
            simp; omega
          rw [if_neg h120C, pun_all c hc256] at hot
          have HL := Lib.hid (fun q hq w => rletter_any c q hq w)
          have HD := Lib.hid (fun q hq w => rdigit_any c q hq w)
          clear h120C HR HC i1 d1
          by_cases g33 : 33 ≤ c
          · have e33 : decide ((33 : Int) ≤ (c : Int)) = true := by simp; omega
            by_cases g126 : c ≤ 126
            · have e126 : decide ((c : Int) ≤ 126) = true := by simp; omega
              have k1 : decide (33 ≤ c) = true := decide_eq_true g33
              have k2 : decide (c ≤ 126) = true := decide_eq_true g126
              rw [k1, k2] at hot
              cases hlb : letB c with
              | true =>
                rw [hlb] at hot
                obtain ⟨rfl, rfl⟩ : b = 0 ∧ n = 0 := by cases hot; exact ⟨rfl, rfl⟩
                have HA := Lib.hid (HL.out true hlb)
                clear hot hlb HL HD k1 k2
                go_wp2_with fail
                refine (HA.out _).mono ?_
                rintro e w1 ⟨rfl, hE1⟩
                have HE1 := Lib.hid (bel_call HX0.out hE1)
                clear hE1
                go_wp2_with fail
                go_ret2
                exact ⟨rfl, HE1.out⟩
              | false =>
                rw [hlb] at hot
                have HA := Lib.hid (HL.out false hlb)
                cases hdb : digB c with
                | true =>
                  rw [hdb] at hot
                  obtain ⟨rfl, rfl⟩ : b = 0 ∧ n = 0 := by cases hot; exact ⟨rfl, rfl⟩
                  have HB := Lib.hid (HD.out true hdb)
                  clear hot hlb hdb HL HD k1 k2
                  go_wp2_with fail
                  refine (HA.out _).mono ?_
                  rintro e w1 ⟨rfl, hE1⟩
                  have HE1 := Lib.hid (bel_call HX0.out hE1)
                  clear hE1
                  go_wp2_with fail
                  refine (HB.out _).mono ?_
                  rintro e w2 ⟨rfl, hE2⟩
                  have HE2 := Lib.hid (bel_call HE1.out hE2)
                  clear hE2
                  go_wp2_with fail
                  go_ret2
                  exact ⟨rfl, HE2.out⟩
                | false =>
                  rw [hdb] at hot
                  obtain ⟨rfl, rfl⟩ : b = c ∧ n = 1 := by cases hot; exact ⟨rfl, rfl⟩
                  have HB := Lib.hid (HD.out false hdb)
                  clear hot hlb hdb HL HD k1 k2
                  go_wp2_with fail
                  refine (HA.out _).mono ?_
                  rintro e w1 ⟨rfl, hE1⟩
                  have HE1 := Lib.hid (bel_call HX0.out hE1)
                  clear hE1
                  go_wp2_with fail
                  refine (HB.out _).mono ?_
                  rintro e w2 ⟨rfl, hE2⟩
                  have HE2 := Lib.hid (bel_call HE1.out hE2)
                  clear hE2
                  go_wp2_with fail
                  go_ret2
                  exact ⟨rfl, HE2.out⟩
            · have e126 : decide ((c : Int) ≤ 126) = false := by simp; omega
              have k2 : decide (c ≤ 126) = false := decide_eq_false g126
              rw [k2] at hot
              simp only [Bool.and_false, Bool.false_and] at hot
              obtain ⟨rfl, rfl⟩ : b = 0 ∧ n = 0 := by cases hot; exact ⟨rfl, rfl⟩
              clear hot HL HD k2
              go_wp2_with fail
              go_ret2
              exact ⟨rfl, HX0.out⟩
          · have e33 : decide ((33 : Int) ≤ (c : Int)) = false := by simp; omega
            have k1 : decide (33 ≤ c) = false := decide_eq_false g33
            rw [k1] at hot
            simp only [Bool.false_and] at hot
            obtain ⟨rfl, rfl⟩ : b = 0 ∧ n = 0 := by cases hot; exact ⟨rfl, rfl⟩
            clear hot HL HD k1
            go_wp2_with fail
            go_ret2
            exact ⟨rfl, HX0.out⟩
end Go.Proofs.YtgcfilgobclcjaaGreatDoor
namespace Go.Proofs.YtgcfilgobclcjaaGreatDoor
open Go Go.RowKit
theorem rat_any (c a : Int) (w : World) : Calls Tryz.prog 20 #[.int .i64 c, .int .i64 a] w fun e w' => e = .returned (.agg #[.int .i64 c, .int .i64 0, .int .i64 0, .int .i64 a, .slice none 0 0]) ∧ Ext w w' := by
  have kR := Blk.new w #[.int .i64 0, .int .i64 0, .int .i64 0, .int .i64 0, .slice none 0 0] 34
  have kZ := ((((kR.set 0 (.int .i64 c)).set 1 (.int .i64 0)).set 2 (.int .i64 0)).set 3 (.int .i64 a)).set 4 (.slice none 0 0)
  obtain ⟨q0, q1, q2, q3, q4⟩ := kR.cells5
  have f0 := kR.free 0
  have f1 := kR.free 1
  have f2 := kR.free 2
  have f3 := kR.free 3
  have f4 := kR.free 4
  have hlt := kR.lt
  obtain ⟨z0, z1, z2, z3, z4⟩ := kZ.cells5
  have hx : Ext w (w.alloc (.cells #[.int .i64 0, .int .i64 0, .int .i64 0, .int .i64 0, .slice none 0 0] 34)) := by go_grown
  have HX := Lib.hid hx
  clear kR kZ hx
  go_enter Tryz.func20, Tryz.ntmps20
  go_wp2
  refine bodyPost_ret (v := .agg #[.int .i64 c, .int .i64 0, .int .i64 0, .int .i64 a, .slice none 0 0]) ?_ rfl ⟨rfl, by (repeat' (first | (with_reducible exact Below.refl _ _) | (with_reducible assumption) | (with_reducible refine below_drewN ?_ _) | (with_reducible refine Below.alloc ?_ ?_ _) | (with_reducible refine Below.drew ?_) | (with_reducible refine Below.setCell ?_ ?_ _) | (with_reducible refine Below.trans ?_ (Below.mono (by with_reducible assumption) ?_)) | go_size))⟩
  simp [results, Tryz.results20, go_sem]
def RuEnd (w w' : World) (e : Ending) : Sum Nat (List UInt8 × Nat) → Prop
  | .inl q => e = .returned (.tuple #[.string ⟨#[]⟩, .int .i64 0, .agg #[.int .i64 3, .int .i64 0, .int .i64 0, .int .i64 (q : Int), .slice none 0 0]]) ∧ Ext w w'
  | .inr (A, m) => e = .returned (.tuple #[.string ⟨A.toArray⟩, .int .i64 (m : Int), .agg #[.int .i64 0, .int .i64 0, .int .i64 0, .int .i64 0, .slice none 0 0]]) ∧ Ext w w'
set_option maxHeartbeats 2000000 in
set_option maxRecDepth 20000 in
theorem runq_any (s : ByteArray) (a : Int) (hs : s.size ≤ 4294967000) (x : Sum Nat (List UInt8 × Nat)) (hx : uqs s a = x) (w : World) :
    Calls Tryz.prog 13 #[.string s, .int .i64 a] w fun e w' => RuEnd w w' e x := by
  obtain ⟨i0, hi, hz0, hz1, hz2⟩ := info_parts info_u8
  have hx0 : Ext w (w.alloc (.cells #[.int .i64 0, .int .i64 0, .int .i64 0, .int .i64 0, .slice none 0 0] 34)) := by go_grown
  have HX0 := Lib.hid hx0
  have HB0 := Lib.hid (Blk.new w #[.int .i64 0, .int .i64 0, .int .i64 0, .int .i64 0, .slice none 0 0] 34)
  unfold uqs at hx
  by_cases h1 : a < 0 ∨ (s.size : Int) ≤ a
  · have hp : pos s a = s.size := by
      unfold pos
      split
      · rfl
      · rename_i h2
        simp only [not_or, Int.not_lt] at h2
        omega
    rw [hp, rest_end s _ (Nat.le_refl _)] at hx
    have hx2 : Sum.inl s.size = x := by rw [← hx]; rfl
    have HX := Lib.hid hx2
    clear hx hx2 hp hx0
    by_cases h2 : a < 0
    · have d1 : decide (a < 0) = true := decide_eq_true h2
      clear h1 h2
      go_enter Tryz.func13, Tryz.ntmps13
      go_wp2_with fail
      refine (rat_any 3 ((s.size : Int)) _).mono ?_
      rintro e w9 ⟨rfl, hE9⟩
      have kB := HB0.out.ext hE9
      have HG9 := Lib.hid (bel_call HX0.out hE9)
      obtain ⟨q0, q1, q2, q3, q4⟩ := kB.cells5
      have f0 := kB.free 0
      have f1 := kB.free 1
      have f2 := kB.free 2
      have f3 := kB.free 3
      have f4 := kB.free 4
      have hlt9 := kB.lt
      have kZ := ((((kB.set 0 (.int .i64 3)).set 1 (.int .i64 0)).set 2 (.int .i64 0)).set 3 (.int .i64 ((s.size : Int)))).set 4 (.slice none 0 0)
      obtain ⟨z0, z1, z2, z3, z4⟩ := kZ.cells5
      have hXE : Ext w (((((w9.setCell ⟨w.heap.size, 0, none⟩ (.int .i64 3)).setCell ⟨w.heap.size, 1, none⟩ (.int .i64 0)).setCell ⟨w.heap.size, 2, none⟩ (.int .i64 0)).setCell ⟨w.heap.size, 3, none⟩ (.int .i64 ((s.size : Int)))).setCell ⟨w.heap.size, 4, none⟩ (.slice none 0 0)) :=
        ((((HG9.out.setCell (p := ⟨w.heap.size, 0, none⟩) (Nat.le_refl _) _).setCell (p := ⟨w.heap.size, 1, none⟩) (Nat.le_refl _) _).setCell (p := ⟨w.heap.size, 2, none⟩) (Nat.le_refl _) _).setCell (p := ⟨w.heap.size, 3, none⟩) (Nat.le_refl _) _).setCell (p := ⟨w.heap.size, 4, none⟩) (Nat.le_refl _) _
      have HXE := Lib.hid hXE
      clear kB kZ hE9 hXE HG9
      go_wp2_with fail
      refine bodyPost_ret (v := .tuple #[.string ⟨#[]⟩, .int .i64 0, .agg #[.int .i64 3, .int .i64 0, .int .i64 0, .int .i64 ((s.size : Int)), .slice none 0 0]]) ?_ rfl ?_
      · simp [results, Tryz.results13, go_sem, z0, z1, z2, z3, z4]
      · rw [← HX.out]; exact ⟨rfl, HXE.out⟩
    · have d1 : decide (a < 0) = false := decide_eq_false h2
      have d2 : decide ((s.size : Int) ≤ a) = true := by simp; omega
      clear h1 h2
      go_enter Tryz.func13, Tryz.ntmps13
      go_wp2_with fail
      refine (rat_any 3 ((s.size : Int)) _).mono ?_
      rintro e w9 ⟨rfl, hE9⟩
      have kB := HB0.out.ext hE9
      have HG9 := Lib.hid (bel_call HX0.out hE9)
      obtain ⟨q0, q1, q2, q3, q4⟩ := kB.cells5
      have f0 := kB.free 0
      have f1 := kB.free 1
      have f2 := kB.free 2
      have f3 := kB.free 3
      have f4 := kB.free 4
      have hlt9 := kB.lt
      have kZ := ((((kB.set 0 (.int .i64 3)).set 1 (.int .i64 0)).set 2 (.int .i64 0)).set 3 (.int .i64 ((s.size : Int)))).set 4 (.slice none 0 0)
      obtain ⟨z0, z1, z2, z3, z4⟩ := kZ.cells5
      have hXE : Ext w (((((w9.setCell ⟨w.heap.size, 0, none⟩ (.int .i64 3)).setCell ⟨w.heap.size, 1, none⟩ (.int .i64 0)).setCell ⟨w.heap.size, 2, none⟩ (.int .i64 0)).setCell ⟨w.heap.size, 3, none⟩ (.int .i64 ((s.size : Int)))).setCell ⟨w.heap.size, 4, none⟩ (.slice none 0 0)) :=
        ((((HG9.out.setCell (p := ⟨w.heap.size, 0, none⟩) (Nat.le_refl _) _).setCell (p := ⟨w.heap.size, 1, none⟩) (Nat.le_refl _) _).setCell (p := ⟨w.heap.size, 2, none⟩) (Nat.le_refl _) _).setCell (p := ⟨w.heap.size, 3, none⟩) (Nat.le_refl _) _).setCell (p := ⟨w.heap.size, 4, none⟩) (Nat.le_refl _) _
      have HXE := Lib.hid hXE
      clear kB kZ hE9 hXE HG9
      go_wp2_with fail
      refine bodyPost_ret (v := .tuple #[.string ⟨#[]⟩, .int .i64 0, .agg #[.int .i64 3, .int .i64 0, .int .i64 0, .int .i64 ((s.size : Int)), .slice none 0 0]]) ?_ rfl ?_
      · simp [results, Tryz.results13, go_sem, z0, z1, z2, z3, z4]
      · rw [← HX.out]; exact ⟨rfl, HXE.out⟩
  · obtain ⟨i, rfl⟩ : ∃ i : Nat, a = (i : Int) := ⟨a.toNat, by omega⟩
    have hil : i < s.size := by omega
    have hp : pos s i = i := by
      unfold pos
      rw [if_neg (by omega)]; omega
    rw [hp] at hx
    obtain ⟨C, hC⟩ := rest_uncons s i hil
    have hix := idx_at s i (i : Int) rfl C _ hC
    have d1 : decide ((i : Int) < 0) = false := by simp
    have d2 : decide ((s.size : Int) ≤ (i : Int)) = false := by simp; omega
    unfold quq at hx
    rw [hC] at hx
    by_cases h34 : C = 34
    · subst h34
      rw [if_pos (by rfl)] at hx
      simp only [List.drop_succ_cons, List.drop_zero] at hx
      have HX := Lib.hid hx
      have hrl := rest_len (show i + 1 ≤ s.size by omega)
      clear hx hp h1 hx0 hC
      have d2n : decide (s.size ≤ i) = false := by simp; omega
      go_enter Tryz.func13, Tryz.ntmps13
      go_wp2_with fail
      obtain ⟨w1, hw1⟩ : ∃ w1, w.alloc (.cells #[.int .i64 0, .int .i64 0, .int .i64 0, .int .i64 0, .slice none 0 0] 34) = w1 := ⟨_, rfl⟩
      rw [hw1] at HX0 HB0 ⊢
      clear hw1 hix d1 d2 d2n
      go_loopg [7, 8] ((34 :: rest s (i + 1)).length + 1) (fun g v z wr => ∃ (A : List UInt8) (k : Nat), z = .int .i64 (k : Int) ∧ k ≤ s.size ∧ (rest s k).length < g ∧ A.length ≤ k ∧ Hid (quo unq g (rest s k) A k = x) ∧ Hid (Ext w wr) ∧ Hid (Blk wr w.heap.size #[.int .i64 0, .int .i64 0, .int .i64 0, .int .i64 0, .slice none 0 0] 34) ∧ Hid (wr.ownsRow (w.heap.size + 1) 5 1 v A.length (A.map ub)))
      case atStart => exact ⟨[], i + 1, by congr 1, by omega, by simp only [List.length_cons]; omega, by simp, HX, HX0, HB0, Lib.hid (World.ownsRow_nil _ _ _ _)⟩
      case round =>
        clear HX HX0 HB0
        obtain ⟨A, k, rfl, hk, hlen, hAl, hO, hE, hB, hown⟩ := hrel
        obtain ⟨g, rfl⟩ : ∃ g, gk = g + 1 := ⟨gk - 1, by omega⟩
        have hrk := rest_len hk
        by_cases hks : k < s.size
        · have d3 : decide ((k : Int) < (s.size : Int)) = true := by simp; omega
          obtain ⟨D, hD⟩ := rest_uncons s k hks
          have hix := idx_at s k (k : Int) rfl D _ hD
          have hx1 := hO.out
          have hdl := D.toNat_lt
          have qq : ∀ c : UInt8, D ≠ c → ((D.toNat : Int) == (c.toNat : Int)) = false := fun c hc => by
            have : D.toNat ≠ c.toNat := fun e => hc (UInt8.toNat_inj.1 e)
            simp; omega
          by_cases hq : D = 34
          · subst hq
            rw [quo, hD, if_pos (by rfl)] at hx1
            have HX := Lib.hid hx1
            have d4 : decide ((s.size : Int) ≤ (k : Int)) = false := by simp; omega
            have hcv := own_str hown.out
            have kB := hB.out
            obtain ⟨q0, q1, q2, q3, q4⟩ := kB.cells5
            have f0 := kB.free 0
            have f1 := kB.free 1
            have f2 := kB.free 2
            have f3 := kB.free 3
            have f4 := kB.free 4
            have hlt9 := kB.lt
            have hXE : Ext w (((((wr.setCell ⟨w.heap.size, 0, none⟩ (.int .i64 0)).setCell ⟨w.heap.size, 1, none⟩ (.int .i64 0)).setCell ⟨w.heap.size, 2, none⟩ (.int .i64 0)).setCell ⟨w.heap.size, 3, none⟩ (.int .i64 0)).setCell ⟨w.heap.size, 4, none⟩ (.slice none 0 0)) :=
              ((((hE.out.setCell (p := ⟨w.heap.size, 0, none⟩) (Nat.le_refl _) _).setCell (p := ⟨w.heap.size, 1, none⟩) (Nat.le_refl _) _).setCell (p := ⟨w.heap.size, 2, none⟩) (Nat.le_refl _) _).setCell (p := ⟨w.heap.size, 3, none⟩) (Nat.le_refl _) _).setCell (p := ⟨w.heap.size, 4, none⟩) (Nat.le_refl _) _
            have HXE := Lib.hid hXE
            have HKB := Lib.hid kB
            clear kB hXE hx1 hO hD hown hB hE qq hrk hlen hAl hdl
            go_wp2_with fail
            have kZ := ((((HKB.out.set 0 (.int .i64 0)).set 1 (.int .i64 0)).set 2 (.int .i64 0)).set 3 (.int .i64 0)).set 4 (.slice none 0 0)
            obtain ⟨z0, z1, z2, z3, z4⟩ := kZ.cells5
            refine bodyPost_ret (v := .tuple #[.string ⟨A.toArray⟩, .int .i64 ((k : Int) + 1), .agg #[.int .i64 0, .int .i64 0, .int .i64 0, .int .i64 0, .slice none 0 0]]) ?_ rfl ?_
            · simp [results, Tryz.results13, go_sem, z0, z1, z2, z3, z4]
            · rw [← HX.out]
              exact ⟨by rw [show ((k + 1 : Nat) : Int) = (k : Int) + 1 by omega], HXE.out⟩
          · have n34 : ((D.toNat : Int) == 34) = false := qq 34 hq
            rw [quo, hD, if_neg (by rw [pre1]; simp; exact fun e => hq e.symm)] at hx1
            by_cases h10 : D = 10
            · subst h10
              have hx2 : Sum.inl k = x := by rw [← hx1]; rfl
              have HX := Lib.hid hx2
              clear hx1 hx2 hO hD hown qq
              go_wp2_with fail
              refine (rat_any 3 ((k : Int)) _).mono ?_
              rintro e w9 ⟨rfl, hE9⟩
              have kB := hB.out.ext hE9
              have HG9 := Lib.hid (bel_call hE.out hE9)
              obtain ⟨q0, q1, q2, q3, q4⟩ := kB.cells5
              have f0 := kB.free 0
              have f1 := kB.free 1
              have f2 := kB.free 2
              have f3 := kB.free 3
              have f4 := kB.free 4
              have hlt9 := kB.lt
              have kZ := ((((kB.set 0 (.int .i64 3)).set 1 (.int .i64 0)).set 2 (.int .i64 0)).set 3 (.int .i64 ((k : Int)))).set 4 (.slice none 0 0)
              obtain ⟨z0, z1, z2, z3, z4⟩ := kZ.cells5
              have hXE : Ext w (((((w9.setCell ⟨w.heap.size, 0, none⟩ (.int .i64 3)).setCell ⟨w.heap.size, 1, none⟩ (.int .i64 0)).setCell ⟨w.heap.size, 2, none⟩ (.int .i64 0)).setCell ⟨w.heap.size, 3, none⟩ (.int .i64 ((k : Int)))).setCell ⟨w.heap.size, 4, none⟩ (.slice none 0 0)) :=
                ((((HG9.out.setCell (p := ⟨w.heap.size, 0, none⟩) (Nat.le_refl _) _).setCell (p := ⟨w.heap.size, 1, none⟩) (Nat.le_refl _) _).setCell (p := ⟨w.heap.size, 2, none⟩) (Nat.le_refl _) _).setCell (p := ⟨w.heap.size, 3, none⟩) (Nat.le_refl _) _).setCell (p := ⟨w.heap.size, 4, none⟩) (Nat.le_refl _) _
              have HXE := Lib.hid hXE
              clear kB kZ hE9 hXE HG9
              go_wp2_with fail
              refine bodyPost_ret (v := .tuple #[.string ⟨#[]⟩, .int .i64 0, .agg #[.int .i64 3, .int .i64 0, .int .i64 0, .int .i64 ((k : Int)), .slice none 0 0]]) ?_ rfl ?_
              · simp [results, Tryz.results13, go_sem, z0, z1, z2, z3, z4]
              · rw [← HX.out]; exact ⟨rfl, HXE.out⟩
            · have n10 : ((D.toNat : Int) == 10) = false := qq 10 h10
              by_cases h92 : D = 92
              · subst h92
                obtain ⟨⟨b, n⟩, hbn⟩ : ∃ y, unq (rest s (k + 1)) = y := ⟨_, rfl⟩
                have hch : chr unq [10] (92 :: rest s (k + 1)) = if n = 0 then none else some (b, n + 1) := by
                  show (if (unq (rest s (k + 1))).2 = 0 then none else some ((unq (rest s (k + 1))).1, (unq (rest s (k + 1))).2 + 1)) = _
                  rw [hbn]
                rw [hch] at hx1
                have hlb := unq_byte (rest s (k + 1))
                have hln := unq_len (rest s (k + 1))
                rw [hbn] at hlb hln
                have hrk1 := rest_len (show k + 1 ≤ s.size by omega)
                have HES := Lib.hid (rescape_any s k hs hks b n hbn wr)
                clear hch hbn hO qq
                by_cases hn : n = 0
                · subst hn
                  have hx2 : Sum.inl k = x := hx1
                  have HX := Lib.hid hx2
                  have he : escN 0 = 0 := rfl
                  rw [he] at HES
                  clear hx1 hx2 hD hown
                  go_wp2_with fail
                  refine HES.out.mono ?_
                  rintro e w3 ⟨rfl, hx3⟩
                  have hE3 := Lib.hid (bel_call hE.out hx3)
                  have hB3 := Lib.hid (hB.out.ext hx3)
                  clear hx3 HES
                  go_wp2_with fail
                  refine (rat_any 3 ((k : Int)) _).mono ?_
                  rintro e w9 ⟨rfl, hE9⟩
                  have kB := hB3.out.ext hE9
                  have HG9 := Lib.hid (bel_call hE3.out hE9)
                  obtain ⟨q0, q1, q2, q3, q4⟩ := kB.cells5
                  have f0 := kB.free 0
                  have f1 := kB.free 1
                  have f2 := kB.free 2
                  have f3 := kB.free 3
                  have f4 := kB.free 4
                  have hlt9 := kB.lt
                  have kZ := ((((kB.set 0 (.int .i64 3)).set 1 (.int .i64 0)).set 2 (.int .i64 0)).set 3 (.int .i64 ((k : Int)))).set 4 (.slice none 0 0)
                  obtain ⟨z0, z1, z2, z3, z4⟩ := kZ.cells5
                  have hXE : Ext w (((((w9.setCell ⟨w.heap.size, 0, none⟩ (.int .i64 3)).setCell ⟨w.heap.size, 1, none⟩ (.int .i64 0)).setCell ⟨w.heap.size, 2, none⟩ (.int .i64 0)).setCell ⟨w.heap.size, 3, none⟩ (.int .i64 ((k : Int)))).setCell ⟨w.heap.size, 4, none⟩ (.slice none 0 0)) :=
                    ((((HG9.out.setCell (p := ⟨w.heap.size, 0, none⟩) (Nat.le_refl _) _).setCell (p := ⟨w.heap.size, 1, none⟩) (Nat.le_refl _) _).setCell (p := ⟨w.heap.size, 2, none⟩) (Nat.le_refl _) _).setCell (p := ⟨w.heap.size, 3, none⟩) (Nat.le_refl _) _).setCell (p := ⟨w.heap.size, 4, none⟩) (Nat.le_refl _) _
                  have HXE := Lib.hid hXE
                  clear kB kZ hE9 hXE HG9
                  go_wp2_with fail
                  refine bodyPost_ret (v := .tuple #[.string ⟨#[]⟩, .int .i64 0, .agg #[.int .i64 3, .int .i64 0, .int .i64 0, .int .i64 ((k : Int)), .slice none 0 0]]) ?_ rfl ?_
                  · simp [results, Tryz.results13, go_sem, z0, z1, z2, z3, z4]
                  · rw [← HX.out]; exact ⟨rfl, HXE.out⟩
                · rw [if_neg hn] at hx1
                  have hxr : (92 :: rest s (k + 1)).drop (n + 1) = rest s (k + (n + 1)) := by rw [← hD, ← rest_drop]
                  simp only [hxr] at hx1
                  have HX := Lib.hid hx1
                  have he : escN n = (n : Int) + 1 := by unfold escN; rw [if_neg hn]
                  rw [he] at HES
                  have hne : (((n : Int) + 1) == 0) = false := by simp; omega
                  have hrl3 := rest_len (show k + (n + 1) ≤ s.size by omega)
                  clear hx1 hxr hD he
                  go_wp2_with fail
                  refine HES.out.mono ?_
                  rintro e w3 ⟨rfl, hx3⟩
                  have hE3 := Lib.hid (bel_call hE.out hx3)
                  have hB3 := Lib.hid (hB.out.ext hx3)
                  have hown3 := own_grown hown.out (grown_of_ext (row := none) hx3) (fun j hj => by cases hj)
                  have hsz3 := hB3.out.lt
                  clear hx3 HES hE hB hown
                  go_wp2_with (at_builtin; refine wpList_append_own _ rfl (.tmp 67) (.tmp 69) 66 rfl (w.heap.size + 1) 5 i0 (.int .u8 0) 1 1 Tryz.underlying66 hi hz0 hz1 hz2 rfl (by decide) _ _ _ rfl (hown3.alloc _) ⟨w3.heap.size, 0, none⟩ 1 1 [_] rfl rfl (cell_one_new _ _ _) (by intro u hu; simp at hu; subst hu; rfl) (by unfold maxLen; omega) (by omega) (by simp; omega) ?_; intro v1 w4 hown1 hgrow1 hnil1)
                  go_roundg g
                  case rel =>
                    have hx4 : Ext w (w3.alloc (.cells #[.int .u8 ((b : Int))] 5)) := bel_alloc hE3.out (Below.refl _ _) _
                    have hE4 : Ext w w4 := ⟨hgrow1.os.trans hx4.os, hgrow1.tape.trans hx4.tape, hgrow1.output.trans hx4.output, Nat.le_trans hx4.size hgrow1.size, fun j hj => (hgrow1.block j (Nat.lt_of_lt_of_le hj hx4.size) (fun e => by have := (hown3.lt j e.symm).1; omega)).trans (hx4.block j hj)⟩
                    refine ⟨A ++ [UInt8.ofNat b], k + (n + 1), by first | rfl | go_num | (congr 1; omega), by omega, by omega, by simp; omega, HX, Lib.hid hE4, Lib.hid ?_, Lib.hid ?_⟩
                    · exact (hB3.out.ext (show Ext w3 (w3.alloc (.cells #[.int .u8 ((b : Int))] 5)) from by (repeat' (first | (with_reducible exact Below.refl _ _) | (with_reducible assumption) | (with_reducible refine below_drewN ?_ _) | (with_reducible refine Below.alloc ?_ ?_ _) | (with_reducible refine Below.drew ?_) | (with_reducible refine Below.setCell ?_ ?_ _) | (with_reducible refine Below.trans ?_ (Below.mono (by with_reducible assumption) ?_)) | go_size)))).grown hgrow1 (fun e => by have := (hown3.lt _ e).1; omega)
                    · rw [List.length_append, List.map_append]
                      have e : ([UInt8.ofNat b].map ub) = [.int .u8 ((b : Int))] := by simp [ub]; try omega
                      rw [e]
                      exact hown1
                  case measure => exact Nat.lt_succ_self g
              · have n92 : ((D.toNat : Int) == 92) = false := qq 92 h92
                have hch : chr unq [10] (D :: rest s (k + 1)) = some (D.toNat, 1) := by
                  show (if D = 92 then _ else if D ∈ [10] then none else some (D.toNat, 1)) = _
                  rw [if_neg h92, if_neg (by simp; exact h10)]
                rw [hch] at hx1
                have hxr : (D :: rest s (k + 1)).drop 1 = rest s (k + 1) := rfl
                simp only [hxr] at hx1
                have HX := Lib.hid hx1
                have hrl3 := rest_len (show k + 1 ≤ s.size by omega)
                have hown3 := hown.out
                have hE3 := hE
                have hB3 := hB
                have hsz3 := hB3.out.lt
                clear hx1 hxr hch hO hD qq hown hE hB
                go_wp2_with (at_builtin; refine wpList_append_own _ rfl (.tmp 43) (.tmp 47) 66 rfl (w.heap.size + 1) 5 i0 (.int .u8 0) 1 1 Tryz.underlying66 hi hz0 hz1 hz2 rfl (by decide) _ _ _ rfl (hown3.alloc _) ⟨wr.heap.size, 0, none⟩ 1 1 [_] rfl rfl (cell_one_new _ _ _) (by intro u hu; simp at hu; subst hu; rfl) (by unfold maxLen; omega) (by omega) (by simp; omega) ?_; intro v1 w4 hown1 hgrow1 hnil1)
                go_roundg g
                case rel =>
                  have hx4 : Ext w (wr.alloc (.cells #[.int .u8 ((D.toNat : Int))] 5)) := bel_alloc hE3.out (Below.refl _ _) _
                  have hE4 : Ext w w4 := ⟨hgrow1.os.trans hx4.os, hgrow1.tape.trans hx4.tape, hgrow1.output.trans hx4.output, Nat.le_trans hx4.size hgrow1.size, fun j hj => (hgrow1.block j (Nat.lt_of_lt_of_le hj hx4.size) (fun e => by have := (hown3.lt j e.symm).1; omega)).trans (hx4.block j hj)⟩
                  refine ⟨A ++ [UInt8.ofNat D.toNat], k + 1, by first | rfl | go_num | (congr 1; omega), by omega, by omega, by simp; omega, HX, Lib.hid hE4, Lib.hid ?_, Lib.hid ?_⟩
                  · exact (hB3.out.ext (show Ext wr (wr.alloc (.cells #[.int .u8 ((D.toNat : Int))] 5)) from by (repeat' (first | (with_reducible exact Below.refl _ _) | (with_reducible assumption) | (with_reducible refine below_drewN ?_ _) | (with_reducible refine Below.alloc ?_ ?_ _) | (with_reducible refine Below.drew ?_) | (with_reducible refine Below.setCell ?_ ?_ _) | (with_reducible refine Below.trans ?_ (Below.mono (by with_reducible assumption) ?_)) | go_size)))).grown hgrow1 (fun e => by have := (hown3.lt _ e).1; omega)
                  · rw [List.length_append, List.map_append]
                    have e : ([UInt8.ofNat D.toNat].map ub) = [.int .u8 ((D.toNat : Int))] := by simp [ub]; try omega
                    rw [e]
                    exact hown1
                case measure => exact Nat.lt_succ_self g
        · obtain rfl : k = s.size := by omega
          have d3 : decide (((s.size : Nat) : Int) < (s.size : Int)) = false := by simp
          have d4 : decide ((s.size : Int) ≤ (s.size : Int)) = true := by simp
          have hx1 := hO.out
          rw [quo, rest_end s _ (Nat.le_refl _)] at hx1
          have hx2 : Sum.inl s.size = x := by rw [← hx1]; rfl
          have HX := Lib.hid hx2
          clear hx1 hx2 hO hown
          go_wp2_with fail
          refine (rat_any 3 ((s.size : Int)) _).mono ?_
          rintro e w9 ⟨rfl, hE9⟩
          have kB := hB.out.ext hE9
          have HG9 := Lib.hid (bel_call hE.out hE9)
          obtain ⟨q0, q1, q2, q3, q4⟩ := kB.cells5
          have f0 := kB.free 0
          have f1 := kB.free 1
          have f2 := kB.free 2
          have f3 := kB.free 3
          have f4 := kB.free 4
          have hlt9 := kB.lt
          have kZ := ((((kB.set 0 (.int .i64 3)).set 1 (.int .i64 0)).set 2 (.int .i64 0)).set 3 (.int .i64 ((s.size : Int)))).set 4 (.slice none 0 0)
          obtain ⟨z0, z1, z2, z3, z4⟩ := kZ.cells5
          have hXE : Ext w (((((w9.setCell ⟨w.heap.size, 0, none⟩ (.int .i64 3)).setCell ⟨w.heap.size, 1, none⟩ (.int .i64 0)).setCell ⟨w.heap.size, 2, none⟩ (.int .i64 0)).setCell ⟨w.heap.size, 3, none⟩ (.int .i64 ((s.size : Int)))).setCell ⟨w.heap.size, 4, none⟩ (.slice none 0 0)) :=
            ((((HG9.out.setCell (p := ⟨w.heap.size, 0, none⟩) (Nat.le_refl _) _).setCell (p := ⟨w.heap.size, 1, none⟩) (Nat.le_refl _) _).setCell (p := ⟨w.heap.size, 2, none⟩) (Nat.le_refl _) _).setCell (p := ⟨w.heap.size, 3, none⟩) (Nat.le_refl _) _).setCell (p := ⟨w.heap.size, 4, none⟩) (Nat.le_refl _) _
          have HXE := Lib.hid hXE
          clear kB kZ hE9 hXE HG9
          go_wp2_with fail
          refine bodyPost_ret (v := .tuple #[.string ⟨#[]⟩, .int .i64 0, .agg #[.int .i64 3, .int .i64 0, .int .i64 0, .int .i64 ((s.size : Int)), .slice none 0 0]]) ?_ rfl ?_
          · simp [results, Tryz.results13, go_sem, z0, z1, z2, z3, z4]
          · rw [← HX.out]; exact ⟨rfl, HXE.out⟩
    · have n34 : ((C.toNat : Int) == 34) = false := by
        have : C.toNat ≠ (34 : UInt8).toNat := fun e => h34 (UInt8.toNat_inj.1 e)
        have h0 : (34 : UInt8).toNat = 34 := rfl
        simp; omega
      rw [if_neg (by rw [pre1]; simp; exact fun e => h34 e.symm)] at hx
      have HX := Lib.hid hx
      clear hx hp h1 hx0 hC h34
      go_enter Tryz.func13, Tryz.ntmps13
      go_wp2_with fail
      refine (rat_any 3 ((i : Int)) _).mono ?_
      rintro e w9 ⟨rfl, hE9⟩
      have kB := HB0.out.ext hE9
      have HG9 := Lib.hid (bel_call HX0.out hE9)
      obtain ⟨q0, q1, q2, q3, q4⟩ := kB.cells5
      have f0 := kB.free 0
      have f1 := kB.free 1
      have f2 := kB.free 2
      have f3 := kB.free 3
      have f4 := kB.free 4
      have hlt9 := kB.lt
      have kZ := ((((kB.set 0 (.int .i64 3)).set 1 (.int .i64 0)).set 2 (.int .i64 0)).set 3 (.int .i64 ((i : Int)))).set 4 (.slice none 0 0)
      obtain ⟨z0, z1, z2, z3, z4⟩ := kZ.cells5
      have hXE : Ext w (((((w9.setCell ⟨w.heap.size, 0, none⟩ (.int .i64 3)).setCell ⟨w.heap.size, 1, none⟩ (.int .i64 0)).setCell ⟨w.heap.size, 2, none⟩ (.int .i64 0)).setCell ⟨w.heap.size, 3, none⟩ (.int .i64 ((i : Int)))).setCell ⟨w.heap.size, 4, none⟩ (.slice none 0 0)) :=
        ((((HG9.out.setCell (p := ⟨w.heap.size, 0, none⟩) (Nat.le_refl _) _).setCell (p := ⟨w.heap.size, 1, none⟩) (Nat.le_refl _) _).setCell (p := ⟨w.heap.size, 2, none⟩) (Nat.le_refl _) _).setCell (p := ⟨w.heap.size, 3, none⟩) (Nat.le_refl _) _).setCell (p := ⟨w.heap.size, 4, none⟩) (Nat.le_refl _) _
      have HXE := Lib.hid hXE
      clear kB kZ hE9 hXE HG9
      go_wp2_with fail
      refine bodyPost_ret (v := .tuple #[.string ⟨#[]⟩, .int .i64 0, .agg #[.int .i64 3, .int .i64 0, .int .i64 0, .int .i64 ((i : Int)), .slice none 0 0]]) ?_ rfl ?_
      · simp [results, Tryz.results13, go_sem, z0, z1, z2, z3, z4]
      · rw [← HX.out]; exact ⟨rfl, HXE.out⟩
end Go.Proofs.YtgcfilgobclcjaaGreatDoor
namespace Go.Proofs.YtgcfilgobclcjaaGreatDoor
open Go Go.RowKit
/-- A list of texts with places that came in. -/
def PlcIn (w : World) (v : Value) (L : List (ByteArray × Int)) : Prop :=
  ∃ a cap, v = .slice a L.length cap ∧ L.length ≤ cap ∧ cap ≤ maxLen ∧ (L = [] ∨ ∃ b o, a = some ⟨b, o, none⟩ ∧ b < w.heap.size ∧ ∀ i (h : i < L.length), w.cell? ⟨b, o + i * 2, none⟩ = some (.string L[i].1) ∧ w.cell? ⟨b, o + i * 2 + 1, none⟩ = some (.int .i64 L[i].2))
theorem PlcIn.ext {w w' : World} {v : Value} {L : List (ByteArray × Int)} (h : PlcIn w v L) (hx : Ext w w') : PlcIn w' v L := by
  obtain ⟨a, cap, hv, h1, h2, h⟩ := h
  refine ⟨a, cap, hv, h1, h2, ?_⟩
  rcases h with h | ⟨b, o, ha, hb, h⟩
  · exact .inl h
  · exact .inr ⟨b, o, ha, Nat.lt_of_lt_of_le hb hx.size, fun i hi => ⟨(hx.cell (p := ⟨b, _, none⟩) hb).trans (h i hi).1, (hx.cell (p := ⟨b, _, none⟩) hb).trans (h i hi).2⟩⟩
theorem PlcIn.cells {w : World} {va : Option Addr} {n cap : Nat} {L : List (ByteArray × Int)} (h : PlcIn w (.slice va n cap) L) {k : Nat} (hk : k < L.length) :
    ∃ b o, va = some ⟨b, o, none⟩ ∧ b < w.heap.size ∧ ∀ i (h : i < L.length), w.cell? ⟨b, o + i * 2, none⟩ = some (.string L[i].1) ∧ w.cell? ⟨b, o + i * 2 + 1, none⟩ = some (.int .i64 L[i].2) := by
  obtain ⟨a', c', h1, _, _, h | ⟨b, o, ha, hb, h⟩⟩ := h
  · subst h; exact absurd hk (by simp)
  · cases h1
    exact ⟨b, o, ha, hb, h⟩
abbrev mvA : ByteArray := ⟨#[91, 34, 97]⟩
theorem pos_three (s : ByteArray) : pos (mvA ++ s) 3 = 3 := by
  unfold pos
  have h3 : mvA.size = 3 := rfl
  rw [if_neg (by simp only [ByteArray.size_append, h3]; omega)]
  rfl
theorem rest_three (s : ByteArray) : rest (mvA ++ s) 3 = s.data.toList := by
  unfold rest
  rw [data_append]
  rfl
theorem pos_zero (s : ByteArray) : pos s 0 = 0 := by
  unfold pos
  split
  · omega
  · rfl
theorem prs_three (s : ByteArray) : prs (mvA ++ s) 3 = shf 3 (prs s 0) := by
  unfold prs
  rw [pos_three, rest_three, pos_zero]
  show cls unq (s.data.toList.length + 1) 0 s.data.toList (0 + 3) = shf 3 (cls unq (s.data.toList.length + 1) 0 s.data.toList 0)
  exact (cls_shf unq 3 _).1 0 _ 0
theorem uqs_three (s : ByteArray) : uqs (mvA ++ s) 3 = shq 3 (uqs s 0) := by
  unfold uqs
  rw [pos_three, rest_three, pos_zero]
  show quq unq s.data.toList (0 + 3) = shq 3 (quq unq s.data.toList 0)
  exact quq_shf unq 3 _ 0
theorem pE_shf (x : Sum (Bool × Nat) (BitVec 256 × Nat)) : pE (shf 3 x) = (pE x).map fun y => (y.1, y.2 + 3) := by
  cases x with
  | inl x => obtain ⟨b, q⟩ := x; simp only [shf, pE, Option.map]; congr 2
  | inr x => rfl
theorem uE_shq (x : Sum Nat (List UInt8 × Nat)) : uE (shq 3 x) = (uE x).map fun y => (y.1, y.2 + 3) := by
  cases x with
  | inl q => simp only [shq, uE, Option.map]; congr 2
  | inr x => rfl
theorem pS_shf (x : Sum (Bool × Nat) (BitVec 256 × Nat)) : pS (shf 3 x) = pS x := by cases x <;> rfl
theorem uS_shq (x : Sum Nat (List UInt8 × Nat)) : uS (shq 3 x) = uS x := by cases x <;> rfl
theorem pN_shf (x : Sum (Bool × Nat) (BitVec 256 × Nat)) (h : pE x = none) : pN (shf 3 x) = pN x + 3 := by
  cases x with
  | inl x => cases h
  | inr x => obtain ⟨S, m⟩ := x; simp only [shf, pN]; omega
theorem uN_shq (x : Sum Nat (List UInt8 × Nat)) (h : uE x = none) : uN (shq 3 x) = uN x + 3 := by
  cases x with
  | inl x => cases h
  | inr x => obtain ⟨S, m⟩ := x; simp only [shq, uN]; omega
theorem pA_le (s : ByteArray) (hs : s.size ≤ 4000) : (0 ≤ erA (pE (prs s 0)) ∧ erA (pE (prs s 0)) ≤ 1000000000000) ∧ 0 ≤ pN (prs s 0) ∧ pN (prs s 0) ≤ 1000000000000 := by
  have h := prs_len s 0
  cases hx : prs s 0 with
  | inl x =>
    obtain ⟨b, q⟩ := x
    have := h.1 b q hx
    simp only [pE, erA, pN]; omega
  | inr x =>
    obtain ⟨S, m⟩ := x
    have := h.2 S m hx
    simp only [pE, erA, pN]; omega
theorem uA_le (s : ByteArray) (hs : s.size ≤ 4000) : (0 ≤ erA (uE (uqs s 0)) ∧ erA (uE (uqs s 0)) ≤ 1000000000000) ∧ 0 ≤ uN (uqs s 0) ∧ uN (uqs s 0) ≤ 1000000000000 := by
  have h := uqs_len s 0
  cases hx : uqs s 0 with
  | inl q =>
    have := h.1 q hx
    simp only [uE, erA, uN]; omega
  | inr x =>
    obtain ⟨S, m⟩ := x
    have := h.2 S m hx
    simp only [uE, erA, uN]; omega
theorem er_nil {w : World} {ea : Nat → Addr} {v : Value} {d : Option (Nat × Int)} (h : Er w ea v d) : (v = .nilIface ∧ d = none) ∨ ∃ T x, v = .iface T x := by
  cases d with
  | none => exact .inl ⟨h, rfl⟩
  | some x => exact .inr h.iface
set_option maxHeartbeats 4000000 in
set_option maxRecDepth 20000 in
theorem moves_any (v : Value) (L : List (ByteArray × Int)) (ea : Nat → Addr) (w : World) (hv : PlcIn w v L) (hK : Kg w ea) :
    Calls Tryz.prog 5 #[v] w fun e w' => e = .returned (.bool true) ∧ Below w.heap.size w w' := by
  have HV := Lib.hid hv
  have HK := Lib.hid hK
  obtain ⟨va, vc, rfl, hc1, hc2, _⟩ := hv
  clear hK
  have hL63 : L.length ≤ 9223372036854775807 := by unfold maxLen at hc2; omega
  go_enter Tryz.func5, Tryz.ntmps5
  go_wp2_with fail
  go_loopw [3] (fun i wr => ∃ k : Nat, k ≤ 20 ∧ k ≤ L.length ∧ i = .int .i64 k ∧ Hid (Ext w wr)) (fun i _ => 20 - (intOf i).toNat)
  case atStart => exact ⟨0, by omega, by omega, rfl, Lib.hid (Below.refl _ _)⟩
  case round =>
    obtain ⟨k, hk20, hkl, rfl, hE⟩ := hrel
    by_cases hkn : k < L.length
    · have hd1 : decide ((k : Int) < (L.length : Int)) = true := by simp; omega
      by_cases hk : k < 20
      · have hd2 : decide ((k : Int) < 20) = true := by simp; omega
        obtain ⟨b, o, rfl, hb, hcell⟩ := (HV.out.ext hE.out).cells hkn
        obtain ⟨S, hS⟩ : ∃ S, L[k].1 = S := ⟨_, rfl⟩
        have a0 := (hcell k hkn).1
        rw [hS] at a0
        clear hcell hS
        by_cases hsl : 4000 < S.size
        · have hd3 : decide ((4000 : Int) < (S.size : Int)) = true := by simp; omega
          go_wp2_with fail
          go_roundw
          case rel => first | exact ⟨k + 1, by omega, by omega, by go_num, hE⟩ | ((repeat apply Exists.intro); exact ⟨⟨k + 1, by omega, by omega, by go_num, hE⟩, rfl⟩)
          case measure => simp [intOf]; omega
        · have hd3 : decide ((4000 : Int) < (S.size : Int)) = false := by simp; omega
          have h3 : mvA.size = 3 := rfl
          have hS2 : (mvA ++ S).size ≤ 4294967000 := by rw [ByteArray.size_append, h3]; omega
          obtain ⟨x, hx⟩ : ∃ x, prs S 0 = x := ⟨_, rfl⟩
          obtain ⟨y, hy⟩ : ∃ y, uqs S 0 = y := ⟨_, rfl⟩
          have hxa := pA_le S (by omega)
          have hya := uA_le S (by omega)
          rw [hx] at hxa
          rw [hy] at hya
          have HP := Lib.hid (fun w hK => parse_er ea S 0 (by omega) w hK x hx)
          have HU := Lib.hid (fun w hK => unquote_er ea S 0 (by omega) w hK y hy)
          have HP3 := Lib.hid (fun w hK => parse_er ea (mvA ++ S) 3 hS2 w hK (shf 3 x) (by rw [prs_three, hx]))
          have HU3 := Lib.hid (fun w hK => unquote_er ea (mvA ++ S) 3 hS2 w hK (shq 3 y) (by rw [uqs_three, hy]))
          rw [pS_shf, pE_shf] at HP3
          rw [uS_shq, uE_shq] at HU3
          have hpn := pN_shf x
          have hun := uN_shq y
          have hsz : S.size ≤ 4000 := by omega
          clear hx hy hS2 h3 hsl
          obtain ⟨px, hpx⟩ : ∃ px, pS x = px := ⟨_, rfl⟩
          obtain ⟨nx, hnx⟩ : ∃ nx, pN x = nx := ⟨_, rfl⟩
          obtain ⟨nx3, hnx3⟩ : ∃ nx, pN (shf 3 x) = nx := ⟨_, rfl⟩
          obtain ⟨dx, hdx⟩ : ∃ dx, pE x = dx := ⟨_, rfl⟩
          obtain ⟨uy, huy⟩ : ∃ uy, uS y = uy := ⟨_, rfl⟩
          obtain ⟨ny, hny⟩ : ∃ ny, uN y = ny := ⟨_, rfl⟩
          obtain ⟨ny3, hny3⟩ : ∃ ny, uN (shq 3 y) = ny := ⟨_, rfl⟩
          obtain ⟨dy, hdy⟩ : ∃ dy, uE y = dy := ⟨_, rfl⟩
          rw [hpx, hnx, hdx] at HP
          rw [hpx, hnx3, hdx] at HP3
          rw [huy, hny, hdy] at HU
          rw [huy, hny3, hdy] at HU3
          rw [hdx, hnx] at hxa
          rw [hdy, hny] at hya
          rw [hnx, hnx3, hdx] at hpn
          rw [hny, hny3, hdy] at hun
          clear hpx hnx hnx3 hdx huy hny hny3 hdy x y
          have HPN := Lib.hid (And.intro hpn hun)
          have hss := same_set px
          have HXA := Lib.hid (And.intro hxa.1 hya.1)
          have hn1 := hxa.2
          have hn2 := hya.2
          clear hpn hun hxa hya
          go_wp2_with fail
          refine (HP.out wr (HK.out.ext hE.out)).mono ?_
          rintro e w1 ⟨v1, rfl, hv1, hx1⟩
          have hx1' : Ext wr (w1.alloc (.cells (svs px) 27)) := bel_alloc hx1 (Below.refl _ _) _
          have HE1 := Lib.hid (bel_call hE.out hx1')
          have HB1 := Lib.hid (Blk.new w1 (svs px) 27)
          have HV1 := Lib.hid (hv1.ext (show Ext w1 (w1.alloc (.cells (svs px) 27)) from by (repeat' (first | (with_reducible exact Below.refl _ _) | (with_reducible assumption) | (with_reducible refine below_drewN ?_ _) | (with_reducible refine Below.alloc ?_ ?_ _) | (with_reducible refine Below.drew ?_) | (with_reducible refine Below.setCell ?_ ?_ _) | (with_reducible refine Below.trans ?_ (Below.mono (by with_reducible assumption) ?_)) | go_size))))
          clear hv1 hx1 hx1' HP a0
          go_wp2_with fail
          generalize hp1 : w1.heap.size = p1 at HB1 ⊢
          clear hp1
          generalize w1.alloc (.cells (svs px) 27) = w2 at HE1 HB1 HV1 ⊢
          refine (HP3.out w2 (HK.out.ext HE1.out)).mono ?_
          rintro e w3 ⟨v2, rfl, hv2, hx3⟩
          have hx3' : Ext w2 (w3.alloc (.cells (svs px) 27)) := bel_alloc hx3 (Below.refl _ _) _
          have HE3 := Lib.hid (bel_call HE1.out hx3')
          have HB3 := Lib.hid (And.intro (HB1.out.ext hx3') (Blk.new w3 (svs px) 27))
          have HV3 := Lib.hid (And.intro (HV1.out.ext hx3') (hv2.ext (show Ext w3 (w3.alloc (.cells (svs px) 27)) from by (repeat' (first | (with_reducible exact Below.refl _ _) | (with_reducible assumption) | (with_reducible refine below_drewN ?_ _) | (with_reducible refine Below.alloc ?_ ?_ _) | (with_reducible refine Below.drew ?_) | (with_reducible refine Below.setCell ?_ ?_ _) | (with_reducible refine Below.trans ?_ (Below.mono (by with_reducible assumption) ?_)) | go_size)))))
          clear hv2 hx3 hx3' HP3 HV1 HB1 HE1
          go_wp2_with fail
          generalize hp3 : w3.heap.size = p3 at HB3 ⊢
          clear hp3
          generalize w3.alloc (.cells (svs px) 27) = w4 at HE3 HB3 HV3 ⊢
          refine (HU.out w4 (HK.out.ext HE3.out)).mono ?_
          rintro e w5 ⟨v3, rfl, hv3, hx5⟩
          have HE5 := Lib.hid (bel_call HE3.out hx5)
          have HB5 := Lib.hid (And.intro (HB3.out.1.ext hx5) (HB3.out.2.ext hx5))
          have HV5 := Lib.hid (And.intro (HV3.out.1.ext hx5) (And.intro (HV3.out.2.ext hx5) hv3))
          clear hv3 hx5 HU HV3 HB3 HE3
          go_wp2_with fail
          refine (HU3.out w5 (HK.out.ext HE5.out)).mono ?_
          rintro e w6 ⟨v4, rfl, hv4, hx6⟩
          have HE6 := Lib.hid (bel_call HE5.out hx6)
          obtain ⟨b0, b1, b2, b3⟩ := (HB5.out.1.ext hx6).cells4
          obtain ⟨c0, c1, c2, c3⟩ := (HB5.out.2.ext hx6).cells4
          have HV6 := Lib.hid (And.intro (HV5.out.1.ext hx6) (And.intro (HV5.out.2.1.ext hx6) (And.intro (HV5.out.2.2.ext hx6) hv4)))
          have HMA := Lib.hid (fun w' (hx' : Ext w6 w') => moved_er ea v1 v2 dx w' (HK.out.ext (bel_call HE6.out hx')) (HV6.out.1.ext hx') (HV6.out.2.1.ext hx') HXA.out.1)
          have HMB := Lib.hid (fun w' (hx' : Ext w6 w') => moved_er ea v3 v4 dy w' (HK.out.ext (bel_call HE6.out hx')) (HV6.out.2.2.1.ext hx') (HV6.out.2.2.2.ext hx') HXA.out.2)
          have h1 := er_nil HV6.out.1
          have h3 := er_nil HV6.out.2.2.1
          clear hv4 hx6 HU3 HV5 HB5 HE5 HV6
          rcases h1 with ⟨rfl, rfl⟩ | ⟨T1, x1, rfl⟩
          · obtain rfl := HPN.out.1 rfl
            rcases h3 with ⟨rfl, rfl⟩ | ⟨T3, x3, rfl⟩
            · obtain rfl := HPN.out.2 rfl
              clear HPN HXA
              as_aux_lemma =>
                go_wp2_with fail
                refine (HMA.out w6 (Below.refl _ _)).mono ?_
                rintro e w7 ⟨rfl, hx7⟩
                have HX7 := Lib.hid hx7
                clear hx7 HMA
                go_wp2_with fail
                refine (HMB.out w7 HX7.out).mono ?_
                rintro e w8 ⟨rfl, hx8⟩
                have HE8 := Lib.hid (bel_call (bel_call HE6.out HX7.out) hx8)
                clear hx8 HMB HX7
                go_wp2_with fail
                go_roundw
                case rel => first | exact ⟨k + 1, by omega, by omega, by go_num, HE8⟩ | ((repeat apply Exists.intro); exact ⟨⟨k + 1, by omega, by omega, by go_num, HE8⟩, rfl⟩)
                case measure => simp [intOf]; omega
            · clear HPN HXA
              as_aux_lemma =>
                go_wp2_with fail
                refine (HMA.out w6 (Below.refl _ _)).mono ?_
                rintro e w7 ⟨rfl, hx7⟩
                have HX7 := Lib.hid hx7
                clear hx7 HMA
                go_wp2_with fail
                refine (HMB.out w7 HX7.out).mono ?_
                rintro e w8 ⟨rfl, hx8⟩
                have HE8 := Lib.hid (bel_call (bel_call HE6.out HX7.out) hx8)
                clear hx8 HMB HX7
                go_wp2_with fail
                go_roundw
                case rel => first | exact ⟨k + 1, by omega, by omega, by go_num, HE8⟩ | ((repeat apply Exists.intro); exact ⟨⟨k + 1, by omega, by omega, by go_num, HE8⟩, rfl⟩)
                case measure => simp [intOf]; omega
          · rcases h3 with ⟨rfl, rfl⟩ | ⟨T3, x3, rfl⟩
            · obtain rfl := HPN.out.2 rfl
              clear HPN HXA
              as_aux_lemma =>
                go_wp2_with fail
                refine (HMA.out w6 (Below.refl _ _)).mono ?_
                rintro e w7 ⟨rfl, hx7⟩
                have HX7 := Lib.hid hx7
                clear hx7 HMA
                go_wp2_with fail
                refine (HMB.out w7 HX7.out).mono ?_
                rintro e w8 ⟨rfl, hx8⟩
                have HE8 := Lib.hid (bel_call (bel_call HE6.out HX7.out) hx8)
                clear hx8 HMB HX7
                go_wp2_with fail
                go_roundw
                case rel => first | exact ⟨k + 1, by omega, by omega, by go_num, HE8⟩ | ((repeat apply Exists.intro); exact ⟨⟨k + 1, by omega, by omega, by go_num, HE8⟩, rfl⟩)
                case measure => simp [intOf]; omega
            · clear HPN HXA
              as_aux_lemma =>
                go_wp2_with fail
                refine (HMA.out w6 (Below.refl _ _)).mono ?_
                rintro e w7 ⟨rfl, hx7⟩
                have HX7 := Lib.hid hx7
                clear hx7 HMA
                go_wp2_with fail
                refine (HMB.out w7 HX7.out).mono ?_
                rintro e w8 ⟨rfl, hx8⟩
                have HE8 := Lib.hid (bel_call (bel_call HE6.out HX7.out) hx8)
                clear hx8 HMB HX7
                go_wp2_with fail
                go_roundw
                case rel => first | exact ⟨k + 1, by omega, by omega, by go_num, HE8⟩ | ((repeat apply Exists.intro); exact ⟨⟨k + 1, by omega, by omega, by go_num, HE8⟩, rfl⟩)
                case measure => simp [intOf]; omega
      · obtain rfl : k = 20 := by omega
        have hd1 : decide (((20 : Nat) : Int) < (L.length : Int)) = true := by simp; omega
        have hw := wakes_any (ea 1) (ea 2) wr (HK.out.ext hE.out).tab (HK.out.ext hE.out).kn
        go_wp2_with fail
        refine hw.mono ?_
        rintro e w1 ⟨rfl, hx⟩
        have HX := Lib.hid (bel_call hE.out hx)
        clear hx hw
        go_wp2_with fail
        go_ret
        exact ⟨rfl, HX.out⟩
    · have hd1 : decide ((k : Int) < (L.length : Int)) = false := by simp; omega
      have hw := wakes_any (ea 1) (ea 2) wr (HK.out.ext hE.out).tab (HK.out.ext hE.out).kn
      go_wp2_with fail
      refine hw.mono ?_
      rintro e w1 ⟨rfl, hx⟩
      have HX := Lib.hid (bel_call hE.out hx)
      clear hx hw
      go_wp2_with fail
      go_ret
      exact ⟨rfl, HX.out⟩
end Go.Proofs.YtgcfilgobclcjaaGreatDoor
namespace Go.Proofs.YtgcfilgobclcjaaGreatDoor
open Go Go.ChangeShapes Go.WideShapes Go.ChangeAt Go.RowKit
theorem two_of {α : Type} {l : List α} (h : l.length = 2) : ∃ a b, l = [a, b] :=
  match l, h with
  | [a, b], _ => ⟨a, b, rfl⟩
theorem open_place {H : Type} {enc : TypeId × Value → H} {w : World} {k : Nat} {cs : List Value} {y : DataW H × List MemPlace} (h : DataW.trod enc Tryz.prog w 0 (fun _ => true) true k 24 cs = some y) :
    ∃ (s : ByteArray) (n : Int), cs = [.string s, .int .i64 n] := by
  have c2 : Tryz.prog.cellsOf 24 = 2 := by kernel_rfl
  have c1 : Tryz.prog.cellsOf 9 = 1 := by kernel_rfl
  have c1' : Tryz.prog.cellsOf 3 = 1 := by kernel_rfl
  obtain ⟨y0, y1, n, hx, hl, h0, h1⟩ := trod_struct2 Tryz.underlying24 h
  rw [c2] at hl
  obtain ⟨x0, x1, rfl⟩ := two_of hl
  simp only [c1, c1', List.drop_zero, List.drop_succ_cons, List.take_succ_cons, List.take_zero] at h0 h1
  obtain ⟨s, e0, _, _⟩ := DataW.trod_string Tryz.underlying9 h0
  obtain ⟨m, e1, _, _⟩ := DataW.trod_int Tryz.underlying3 h1
  simp only [List.cons.injEq, and_true] at e0 e1
  subst e0 e1
  exact ⟨s, m, rfl⟩
theorem open_places {H : Type} {enc : TypeId × Value → H} {w : World} {k : Nat} {c : Value} {y : DataW H × List MemPlace} (h : DataW.trod enc Tryz.prog w 0 (fun _ => true) true k 22 [c] = some y) : ∃ L, PlcIn w c L := by
  have c2 : Tryz.prog.cellsOf 24 = 2 := by kernel_rfl
  rcases Deep.open_slice Tryz.underlying22 h with ⟨hcs, _⟩ | ⟨a, len, cap, m, n, D, Pl, hcs, _, hl, hm, hmm, hx, hel⟩
  · simp only [List.cons.injEq, and_true] at hcs
    subst hcs
    exact ⟨[], none, 0, rfl, Nat.le_refl _, by unfold maxLen; omega, .inl rfl⟩
  · simp only [List.cons.injEq, and_true] at hcs
    subst hcs
    simp only [if_true] at hmm
    rw [c2] at hel
    have hS : ∀ i, ∃ s : ByteArray × Int, i < len → w.cell? ((a.add (i * 2)).add 0) = some (.string s.1) ∧ w.cell? ((a.add (i * 2)).add 1) = some (.int .i64 s.2) := by
      intro i
      by_cases hi : i < len
      · obtain ⟨cs', h1, h2⟩ := hel i (by omega)
        obtain ⟨s, q, rfl⟩ := open_place h2
        obtain ⟨_, _, hc⟩ := World.cells?_some h1
        exact ⟨(s, q), fun _ => ⟨hc 0 (by omega), hc 1 (by omega)⟩⟩
      · exact ⟨(.empty, 0), fun h => absurd h hi⟩
    obtain ⟨S, hS'⟩ := Classical.axiomOfChoice hS
    clear hS
    refine ⟨(List.range len).map S, some a, cap, by simp, by simpa using hl, hm, ?_⟩
    by_cases h0 : len = 0
    · subst h0; exact .inl rfl
    · obtain ⟨b, off, spot⟩ := a
      have hspot : spot = none := by simpa [Addr.add] using World.cell?_spot (hS' 0 (by omega)).1
      subst hspot
      simp only [addr_add] at hS'
      refine .inr ⟨b, off, rfl, World.block_lt_of_cell? w (⟨b, off + 0 * 2 + 0, none⟩ : Addr) (hS' 0 (by omega)).1, fun i hi => ?_⟩
      have hi' : i < len := by simpa using hi
      have := hS' i hi'
      simp only [Nat.add_zero] at this
      simp only [List.getElem_map, List.getElem_range]
      exact this
end Go.Proofs.YtgcfilgobclcjaaGreatDoor
namespace Go.Proofs.YtgcfilgobclcjaaGreatDoor
open Go Go.RowKit
theorem runq_er (s : ByteArray) (a : Int) (hs : s.size ≤ 4294967000) (x : Sum Nat (List UInt8 × Nat)) (hx : uqs s a = x) (w : World) :
    Calls Tryz.prog 13 #[.string s, .int .i64 a] w fun e w' => e = .returned (.tuple #[.string (uS x), .int .i64 (uN x), .agg #[.int .i64 (erC (uE x)), .int .i64 0, .int .i64 0, .int .i64 (erA (uE x)), .slice none 0 0]]) ∧ Ext w w' := by
  refine (runq_any s a hs x hx w).mono ?_
  intro e w' h
  cases x with
  | inl q => exact h
  | inr x => exact h
/-- What a read hands over: its value, its place, its error. -/
def RE (ea : Nat → Addr) (U : ByteArray) (n : Int) (d : Option (Nat × Int)) : Value → World → Prop := fun v w => ∃ y, v = .tuple #[.string U, .int .i64 n, y] ∧ Er w ea y d
def RsE (k : Nat) (ea : Nat → Addr) (U : ByteArray) (n : Int) (d : Option (Nat × Int)) : Nat → Option (Value → World → Prop) := fun j => if j = k then some (RE ea U n d) else none
theorem RsE_mono (k : Nat) (ea : Nat → Addr) (U : ByteArray) (n : Int) (d : Option (Nat × Int)) : G.RsMono Ext (RsE k ea U n d) := by
  intro j R h
  unfold RsE at h
  split at h
  · cases h; rintro v w w' hx ⟨y, rfl, hy⟩; exact ⟨y, rfl, hy.ext hx⟩
  · cases h
set_option maxHeartbeats 4000000 in
set_option maxRecDepth 20000 in
theorem unquotes_any (v : Value) (L : List (ByteArray × Int)) (ea : Nat → Addr) (w : World) (hv : PlcIn w v L) (hK : Kg w ea) :
    Calls Tryz.prog 4 #[v] w fun e w' => e = .returned (.bool true) ∧ Below w.heap.size w w' := by
  have HV := Lib.hid hv
  have HK := Lib.hid hK
  obtain ⟨va, vc, rfl, hc1, hc2, _⟩ := hv
  clear hK
  have hL63 : L.length ≤ 9223372036854775807 := by unfold maxLen at hc2; omega
  go_enter Tryz.func4, Tryz.ntmps4
  go_wp2_with fail
  go_loopw [3] (fun i wr => ∃ k : Nat, k ≤ 20 ∧ k ≤ L.length ∧ i = .int .i64 k ∧ Hid (Ext w wr)) (fun i _ => 20 - (intOf i).toNat)
  case atStart => exact ⟨0, by omega, by omega, rfl, Lib.hid (Below.refl _ _)⟩
  case round =>
    obtain ⟨k, hk20, hkl, rfl, hE⟩ := hrel
    by_cases hkn : k < L.length
    · have hd1 : decide ((k : Int) < (L.length : Int)) = true := by simp; omega
      by_cases hk : k < 20
      · have hd2 : decide ((k : Int) < 20) = true := by simp; omega
        obtain ⟨b, o, rfl, hb, hcell⟩ := (HV.out.ext hE.out).cells hkn
        obtain ⟨⟨S, N⟩, hS⟩ : ∃ S, L[k] = S := ⟨_, rfl⟩
        have HCL := Lib.hid (show ∀ w', Ext w w' → w'.cell? ⟨b, o + k * 2, none⟩ = some (.string S) ∧ w'.cell? ⟨b, o + k * 2 + 1, none⟩ = some (.int .i64 N) from fun w' hx => by
          obtain ⟨b', o', e1, hb', hc'⟩ := (HV.out.ext hx).cells hkn
          cases e1
          have := hc' k hkn
          rw [hS] at this
          exact this)
        obtain ⟨a0, a1⟩ := HCL.out wr hE.out
        clear hcell hS
        by_cases hsl : 4000 < S.size
        · have hd3 : decide ((4000 : Int) < (S.size : Int)) = true := by simp; omega
          go_wp2_with fail
          go_roundw
          case rel => first | exact ⟨k + 1, by omega, by omega, by go_num, hE⟩ | ((repeat apply Exists.intro); exact ⟨⟨k + 1, by omega, by omega, by go_num, hE⟩, rfl⟩)
          case measure => simp [intOf]; omega
        · have hd3 : decide ((4000 : Int) < (S.size : Int)) = false := by simp; omega
          obtain ⟨y, hy⟩ : ∃ y, uqs S N = y := ⟨_, rfl⟩
          have HU := Lib.hid (fun w hK => unquote_er ea S N (by omega) w hK y hy)
          have HR := Lib.hid (fun w => runq_er S N (by omega) y hy w)
          obtain ⟨U, hU⟩ : ∃ U, uS y = U := ⟨_, rfl⟩
          obtain ⟨n, hn⟩ : ∃ n, uN y = n := ⟨_, rfl⟩
          obtain ⟨d, hd⟩ : ∃ d, uE y = d := ⟨_, rfl⟩
          rw [hU, hn, hd] at HU HR
          clear hy hU hn hd hsl y
          obtain ⟨C, hC⟩ : ∃ C, erC d = C := ⟨_, rfl⟩
          obtain ⟨Q, hQ⟩ : ∃ Q, erA d = Q := ⟨_, rfl⟩
          have HCQ := Lib.hid (And.intro hC hQ)
          rw [hC, hQ] at HR
          clear hC hQ
          go_wp2_with fail
          refine G.wp_region_stab (G := Ext) (RsE 10 ea U n d) (by kernel_rfl) (by kernel_rfl) (RsE_mono _ _ _ _ _) (fun hex => ?_)
          iterate 10
            (refine G.wpS_one (A := ?_) hex rfl rfl (by simp) ?_ ?_ ?_
             rotate_left 2
             · intro w' hC K hK
               obtain ⟨a0, a1⟩ := HCL.out _ (bel_call hE.out hC.1)
               go_wp2_with (fail)
               refine hK _ ?_
               first | exact Below.refl _ _ | assumption | ((repeat' (first | (with_reducible exact Below.refl _ _) | (with_reducible assumption) | (with_reducible refine below_drewN ?_ _) | (with_reducible refine Below.alloc ?_ ?_ _) | (with_reducible refine Below.drew ?_) | (with_reducible refine Below.setCell ?_ ?_ _) | (with_reducible refine Below.trans ?_ (Below.mono (by with_reducible assumption) ?_)) | go_size)))
             rotate_left 1
             · rfl
             clear hex; intro hex)
          refine G.wpS_rel (RE ea U n d) rfl rfl (by simp) (by first | rfl | (simp [Region.wanted, yielded]; done)) ?_ ?_
          · intro w' hC K hK
            simp only [Act.put, List.setIfInBounds_toArray, List.set_cons_succ, List.set_cons_zero] at hK
            go_wp2_with (refine (HU.out _ (HK.out.ext (bel_call hE.out hC.1))).mono ?_; rintro e w2 ⟨v', rfl, h1, hE1⟩)
            refine hK _ _ ?_ ?_
            · first | exact Below.refl _ _ | assumption | ((repeat' (first | (with_reducible exact Below.refl _ _) | (with_reducible assumption) | (with_reducible refine below_drewN ?_ _) | (with_reducible refine Below.alloc ?_ ?_ _) | (with_reducible refine Below.drew ?_) | (with_reducible refine Below.setCell ?_ ?_ _) | (with_reducible refine Below.trans ?_ (Below.mono (by with_reducible assumption) ?_)) | go_size)))
            · exact ⟨_, rfl, h1⟩
          clear hex
          intro v1 w' hex hv1
          replace hex := Exists.intro w' hex
          simp only [Act.put, List.setIfInBounds_toArray, List.set_cons_succ, List.set_cons_zero]
          obtain ⟨v1, rfl, hv1⟩ := hv1
          clear hv1
          iterate 7
            (refine G.wpS_one (A := ?_) hex rfl rfl (by simp) ?_ ?_ ?_
             rotate_left 2
             · intro w' hC K hK
               go_wp2_with (fail)
               refine hK _ ?_
               first | exact Below.refl _ _ | assumption | ((repeat' (first | (with_reducible exact Below.refl _ _) | (with_reducible assumption) | (with_reducible refine below_drewN ?_ _) | (with_reducible refine Below.alloc ?_ ?_ _) | (with_reducible refine Below.drew ?_) | (with_reducible refine Below.setCell ?_ ?_ _) | (with_reducible refine Below.trans ?_ (Below.mono (by with_reducible assumption) ?_)) | go_size)))
             rotate_left 1
             · rfl
             clear hex; intro hex)
          refine G.wpS_nil fun w1 hAll => ?_
          have hp := (hAll.2 10).1 rfl
          obtain ⟨v2, e2, hv2⟩ := hp
          cases e2
          have HE1 := Lib.hid (bel_call hE.out hAll.1)
          have HV1 := Lib.hid hv2
          clear hv2 hAll hex HU a0 a1 hE
          go_wp2_with fail
          refine H.wp_region_stab (G := Tn w1.heap.size (.cells #[.int .i64 0, .int .i64 0, .int .i64 0, .int .i64 0, .slice none 0 0] 34) (.cells #[.int .i64 C, .int .i64 0, .int .i64 0, .int .i64 Q, .slice none 0 0] 34)) (RsT1 15 18 9 w1.heap.size (.cells #[.int .i64 0, .int .i64 0, .int .i64 0, .int .i64 0, .slice none 0 0] 34) (.cells #[.int .i64 C, .int .i64 0, .int .i64 0, .int .i64 Q, .slice none 0 0] 34)) (by kernel_rfl) (by kernel_rfl) (RsT1_mono _ _ _ _ _ _) (fun hex => ?_)
          iterate 10
            (refine H.wpS_one (A := ?_) hex rfl rfl (by simp) ?_ ?_ ?_
             rotate_left 2
             · intro w' hC K hK
               obtain ⟨a0, a1⟩ := HCL.out _ (bel_call HE1.out hC.1.1)
               go_wp2_with (fail)
               refine hK _ ?_
               first | exact G.GOK.refl _ | exact Tn.of_ext (by assumption) hC.1.1.size | (refine Tn.of_ext ?_ hC.1.1.size; (repeat' (first | (with_reducible exact Below.refl _ _) | (with_reducible assumption) | (with_reducible refine below_drewN ?_ _) | (with_reducible refine Below.alloc ?_ ?_ _) | (with_reducible refine Below.drew ?_) | (with_reducible refine Below.setCell ?_ ?_ _) | (with_reducible refine Below.trans ?_ (Below.mono (by with_reducible assumption) ?_)) | go_size)))
             rotate_left 1
             · rfl
             clear hex; intro hex)
          refine H.wpS_one (A := ?_) hex rfl rfl (by simp) ?_ ?_ ?_
          rotate_left 2
          · intro w' hC K hK
            go_wp2_with (refine (HR.out _).mono ?_; rintro e wq ⟨rfl, hEq⟩)
            refine hK _ ?_
            first | exact G.GOK.refl _ | exact Tn.of_ext (by assumption) hC.1.1.size | (refine Tn.of_ext ?_ hC.1.1.size; (repeat' (first | (with_reducible exact Below.refl _ _) | (with_reducible assumption) | (with_reducible refine below_drewN ?_ _) | (with_reducible refine Below.alloc ?_ ?_ _) | (with_reducible refine Below.drew ?_) | (with_reducible refine Below.setCell ?_ ?_ _) | (with_reducible refine Below.trans ?_ (Below.mono (by with_reducible assumption) ?_)) | go_size)))
          rotate_left 1
          · rfl
          clear hex; intro hex
          iterate 4
            (refine H.wpS_one (A := ?_) hex rfl rfl (by simp) ?_ ?_ ?_
             rotate_left 2
             · intro w' hC K hK
               go_wp2_with (fail)
               refine hK _ ?_
               first | exact G.GOK.refl _ | exact Tn.of_ext (by assumption) hC.1.1.size | (refine Tn.of_ext ?_ hC.1.1.size; (repeat' (first | (with_reducible exact Below.refl _ _) | (with_reducible assumption) | (with_reducible refine below_drewN ?_ _) | (with_reducible refine Below.alloc ?_ ?_ _) | (with_reducible refine Below.drew ?_) | (with_reducible refine Below.setCell ?_ ?_ _) | (with_reducible refine Below.trans ?_ (Below.mono (by with_reducible assumption) ?_)) | go_size)))
             rotate_left 1
             · rfl
             clear hex; intro hex)
          refine H.wpS_rel none (RMade (w1.heap.size) (.cells #[.int .i64 0, .int .i64 0, .int .i64 0, .int .i64 0, .slice none 0 0] 34) (.cells #[.int .i64 C, .int .i64 0, .int .i64 0, .int .i64 Q, .slice none 0 0] 34)) rfl (fun _ h => by cases h) rfl (by simp) (by first | rfl | (simp [Region.wanted, yielded]; done)) ?_ ?_
          · intro w' hC K hK
            simp only [Act.put, List.setIfInBounds_toArray, List.set_cons_succ, List.set_cons_zero] at hK
            go_wp2_with fail
            refine hK _ _ ?_ ⟨_, rfl, hC.1.1.size, .inl (Blk.new _ _ _)⟩
            first | exact G.GOK.refl _ | exact Tn.of_ext (by assumption) hC.1.1.size | (refine Tn.of_ext ?_ hC.1.1.size; (repeat' (first | (with_reducible exact Below.refl _ _) | (with_reducible assumption) | (with_reducible refine below_drewN ?_ _) | (with_reducible refine Below.alloc ?_ ?_ _) | (with_reducible refine Below.drew ?_) | (with_reducible refine Below.setCell ?_ ?_ _) | (with_reducible refine Below.trans ?_ (Below.mono (by with_reducible assumption) ?_)) | go_size)))
          clear hex
          intro v w' hex hv
          obtain ⟨bq, rfl, hbq, hBz⟩ := hv
          clear hBz
          replace hex := Exists.intro w' hex
          simp only [Act.put, List.setIfInBounds_toArray, List.set_cons_succ, List.set_cons_zero]
          iterate 2
            (refine H.wpS_one (A := ?_) hex rfl rfl (by simp) ?_ ?_ ?_
             rotate_left 2
             · intro w' hC K hK
               go_wp2_with (fail)
               refine hK _ ?_
               first | exact G.GOK.refl _ | exact Tn.of_ext (by assumption) hC.1.1.size | (refine Tn.of_ext ?_ hC.1.1.size; (repeat' (first | (with_reducible exact Below.refl _ _) | (with_reducible assumption) | (with_reducible refine below_drewN ?_ _) | (with_reducible refine Below.alloc ?_ ?_ _) | (with_reducible refine Below.drew ?_) | (with_reducible refine Below.setCell ?_ ?_ _) | (with_reducible refine Below.trans ?_ (Below.mono (by with_reducible assumption) ?_)) | go_size)))
             rotate_left 1
             · rfl
             clear hex; intro hex)
          refine H.wpS_said (some (.tmp 9)) (RSet w1.heap.size (.cells #[.int .i64 C, .int .i64 0, .int .i64 0, .int .i64 Q, .slice none 0 0] 34)) rfl (by intro y h; cases h; simp [Op.operands]) rfl (by first | rfl | (simp [Region.wanted, yielded]; done)) (fun _ _ _ _ h => h) ?_ ?_
          · intro w' hC K hK
            obtain ⟨b', e', hb', hBz⟩ := (hC.2 15 (by simp [Region.binds])).1 rfl
            cases e'
            obtain ⟨x0, x1, x2, x3, x4, hbk, z0, z1, z2, z3, z4⟩ := hBz.cells5
            have f0 := hbk.free 0
            have f1 := hbk.free 1
            have f2 := hbk.free 2
            have f3 := hbk.free 3
            have f4 := hbk.free 4
            have hlt := hbk.lt
            have HST := Lib.hid (And.intro hb' hBz)
            clear hbk hBz
            go_wp2_with fail
            exact hK _ (Tn.store5 HST.out.1 HST.out.2).1 ⟨bq, rfl, HST.out.1, (Tn.store5 HST.out.1 HST.out.2).2⟩
          clear hex
          intro hex
          refine H.wpS_nil fun w2 hAll => ?_
          obtain ⟨bq', eq', _, hBt⟩ := (hAll.2 18).1 rfl
          cases eq'
          have HV2 := Lib.hid (HV1.out.ext hAll.1.1)
          have HE2 := Lib.hid (bel_call HE1.out hAll.1.1)
          have HB2 := Lib.hid (show Blk w2 bq #[.int .i64 C, .int .i64 0, .int .i64 0, .int .i64 Q, .slice none 0 0] 34 from hBt)
          obtain ⟨q0, q1, q2, q3, q4⟩ := HB2.out.cells5
          have HS := Lib.hid (same_er ea v1 (.agg #[.int .i64 C, .int .i64 0, .int .i64 0, .int .i64 Q, .slice none 0 0]) d w2 (HK.out.ext HE2.out) HV2.out (by rw [HCQ.out.1, HCQ.out.2]; exact ⟨_, rfl, Texts.nil _⟩))
          clear hAll hBt hex HR HV1 HE1 HB2 HV2 HCQ
          go_wp2_with fail
          refine HS.out.mono ?_
          rintro e w3 ⟨rfl, hx3⟩
          have HE3 := Lib.hid (bel_call HE2.out hx3)
          clear hx3 HS HE2 q0 q1 q2 q3 q4
          go_wp2_with fail
          go_roundw
          case rel => first | exact ⟨k + 1, by omega, by omega, by go_num, HE3⟩ | ((repeat apply Exists.intro); exact ⟨⟨k + 1, by omega, by omega, by go_num, HE3⟩, rfl⟩)
          case measure => simp [intOf]; omega
      · obtain rfl : k = 20 := by omega
        have hd1 : decide (((20 : Nat) : Int) < (L.length : Int)) = true := by simp; omega
        have hw := wakes_any (ea 1) (ea 2) wr (HK.out.ext hE.out).tab (HK.out.ext hE.out).kn
        go_wp2_with fail
        refine hw.mono ?_
        rintro e w1 ⟨rfl, hx⟩
        have HX := Lib.hid (bel_call hE.out hx)
        clear hx hw
        go_wp2_with fail
        go_ret
        exact ⟨rfl, HX.out⟩
    · have hd1 : decide ((k : Int) < (L.length : Int)) = false := by simp; omega
      have hw := wakes_any (ea 1) (ea 2) wr (HK.out.ext hE.out).tab (HK.out.ext hE.out).kn
      go_wp2_with fail
      refine hw.mono ?_
      rintro e w1 ⟨rfl, hx⟩
      have HX := Lib.hid (bel_call hE.out hx)
      clear hx hw
      go_wp2_with fail
      go_ret
      exact ⟨rfl, HX.out⟩
end Go.Proofs.YtgcfilgobclcjaaGreatDoor
namespace Go.Proofs.YtgcfilgobclcjaaGreatDoor
open Go Go.ChangeShapes Go.WideShapes Go.ChangeAt Go.RowKit
theorem classUnquotes_met (os : Os) (args : Array Value) : laidMetH Tryz.prog Rows.classUnquotesRow.laid ((World.doorLaid Tryz.prog 400 os).forCall (fun _ _ => 0) ⟨#[], args, []⟩).memory :=
  laidMetH_of_parts (laidMet_of_run' 8 (by kernel_rfl) (by kernel_rfl)) (by kernel_rfl)
set_option maxRecDepth 100000 in
theorem classUnquotes_contract {H : Type} {enc : TypeId × Value → H} (F : Stop.Interp) (W : World) (base : Nat) (args : Array Value) (ds gs : List (DataW H)) (before : List MemPlace)
    (hval0 : ∀ (j : Nat) t v, Tryz.f4.params[j]? = some t → args[j]? = some v → Value.okWide Tryz.prog W .any base t v)
    (hW : DataW.Whole enc Tryz.prog Tryz.f4.params.toList (OpenSpec.ofChange Rows.classUnquotesSpec).vars false W args.toList ds gs before)
    (hsz : (DataW.weightsEach Tryz.prog (Tryz.f4.params.toList ++ (OpenSpec.ofChange Rows.classUnquotesSpec).bare.plain.varTypes Tryz.prog) (ds ++ gs)).all (· ≤ reachBytes) = true)
    (hL : laidMetH Tryz.prog Rows.classUnquotesRow.laid W) (hsh : W.ShapedOpen Tryz.prog) :
    Calls Tryz.prog 4 args W fun e W' => ∃ v, e = .returned v ∧ ((OpenSpec.ofChange Rows.classUnquotesSpec).at F).post enc Tryz.prog Tryz.f4 false true false false W args v W' := by
  have hval : ∀ (j : Nat) t v, Tryz.f4.params[j]? = some t → args[j]? = some v → Value.okWide Tryz.prog W .any base t v := hval0
  have hW' := hW
  obtain ⟨p, q, hA0, hV, rfl, hfz, hnd⟩ := hW
  have hA : DataW.TrodAll enc Tryz.prog W 0 (fun _ => true) true Tryz.f4.params.toList args.toList ds p := hA0
  rw [Tryz.params4] at hA hval
  obtain ⟨v0, d0, rfl, rfl, h0⟩ := trodAll_one hA
  obtain ⟨rfl, rfl⟩ := trodVars_none hV
  have hlt : ∀ x ∈ p, x.block < W.heap.size := fun x hx => hW'.lt x (by simp [hx])
  have hwt : ∀ n ∈ d0.weights Tryz.prog 22, n ≤ reachBytes := fun n hn => by simpa using List.all_eq_true.1 hsz n (DataW.weights_mem_each (j := 0) rfl rfl n hn)
  obtain ⟨ea, hK⟩ := known_great hL hsh
  obtain ⟨a0, n0, c0, rfl⟩ := okWide_slice Tryz.underlying22 (hval 0 _ v0 rfl rfl); obtain ⟨L, hin⟩ : ∃ L, PlcIn W (.slice a0 n0 c0) L := (by obtain ⟨fuel, hf⟩ := h0; exact open_places hf)
  refine (unquotes_any _ L ea W hin hK).mono fun e W' ⟨he, hB⟩ => ?_
  subst he
  have e1 : ((OpenSpec.ofChange Rows.classUnquotesSpec).at F).fn H ([d0] ++ []) = { results := [.lit (.bool true)], args := [d0] } := rfl
  refine ⟨_, rfl, _, _, _, [], p, [], hW', ?_, ?_, ?_, hB.frame _, fun h => by cases h⟩
  · rw [e1]; exact trodAll_mk1 (shut_bool Tryz.underlying4 true)
  · rw [e1]; exact trodAll_mk1 (Below.trod laidOut (by kernel_rfl) (of_decide_eq_true (by kernel_rfl)) h0 hB hlt)
  · rw [e1]; rfl
set_option maxRecDepth 100000 in
theorem classUnquotes_lifted (os : Os) (started : os.Started) (H : Type) (enc : TypeId × Value → H) (F : Stop.Interp) :
    ReturnsInHanded {} Tryz.checked os 4 .any ((OpenSpec.ofChange Rows.classUnquotesSpec).preRow enc Tryz.prog Tryz.f4 Rows.classUnquotesRow.domain false Rows.classUnquotesRow.laid) (((OpenSpec.ofChange Rows.classUnquotesSpec).at F).post enc Tryz.prog Tryz.f4 false true false false) := by
  have hx : DataW.whole enc Tryz.prog ((World.doorLaid Tryz.prog 400 os).forCall (fun _ _ => 0) ⟨#[], #[.slice none 0 0], []⟩).memory Tryz.f4.params.toList (OpenSpec.ofChange Rows.classUnquotesSpec).vars false (#[.slice none 0 0] : Array Value).toList 8 = some ([.nil], [], []) := by kernel_rfl
  refine returnsInHanded_of_row (C := Tryz.checked) (s := OpenSpec.ofChange Rows.classUnquotesSpec) own started (by kernel_rfl) Tryz.func4
    (witness_row_atRef (enc := enc) (C := Tryz.checked) false (World.doorLaid Tryz.prog 400 os) #[.slice none 0 0] rfl (by kernel_rfl) (by kernel_rfl) (by kernel_rfl)
      (OpenSpec.preRow_of_cond 8 hx (by kernel_rfl) (fun k hk => by cases hk) (by kernel_rfl) (classUnquotes_met os _))) ?_
  intro W base args ds gs before hval hW _ _ hsz hL hsh _
  exact classUnquotes_contract F W base args ds gs before hval hW hsz hL hsh
theorem classUnquotes_row : Rows.ClassUnquotesSaid :=
  OpenClaim.holds_of_cond 4 Tryz.f4 rfl rfl rfl rfl rfl rfl rfl ⟨rfl, rfl, rfl, rfl, rfl⟩ rfl rfl rfl rfl rfl (by kernel_rfl) Tryz.func4 (by kernel_rfl)
    (of_decide_eq_true (by kernel_rfl)) (by unfold Func.isWrapper; rw [if_neg (of_decide_eq_false (by kernel_rfl))]; exact ⟨rfl, rfl⟩)
    (fun os started H enc _ F => by rw [OpenClaim.pre_eq_preRow]; exact classUnquotes_lifted os started H enc F)
theorem classUnquotes_holds : Rows.ClassUnquotesCardSaid :=
  Claim7.holds_tied_plain_at .later [] _ _ Rows.classUnquotesCard.stood.harness Rows.classUnquotesCard.stood.looks
    classUnquotes_row (fun _ h => by cases h) (by kernel_rfl) (fun _ h => by cases h) classUnquotes_row_tie rfl ⟨rfl, rfl⟩ (by kernel_rfl) rfl
    (fun f fn hf hfn => by
      obtain rfl : f = 4 := Option.some.inj ((show Tryz.prog.funcNamed Rows.classUnquotesRow.func = some 4 by kernel_rfl).symm.trans hf) |>.symm
      obtain rfl : fn = Tryz.f4 := (Option.some.inj (Tryz.func4.symm.trans hfn)).symm
      exact ⟨by kernel_rfl, fun j t ht => by
        rw [Tryz.params4] at ht
        have hm : t ∈ [22] := by simpa using Array.mem_of_getElem? ht
        have hall : ([22].all fun u => !Tryz.prog.wantsStandIn u) = true := by kernel_rfl
        exact (show Tryz.prog.wantsStandIn t = false by simpa using List.all_eq_true.1 hall t hm)⟩)
    (by kernel_rfl)
#print axioms classUnquotes_holds
end Go.Proofs.YtgcfilgobclcjaaGreatDoor
