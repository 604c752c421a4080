/- bolterref3's reader: class. -/
import Derived.Test.YtecjodcaeldidaaGreatDoorStabG
import Derived.Test.YtecjodcaeldidaaGreatDoorBse
import Derived.Test.YtecjodcaeldidaaGreatDoorReaA
import Derived.Deep.CutBlock
import Derived.Deep.CutRange
namespace Go.Proofs.YtecjodcaeldidaaGreatDoor.H
open Go Go.RowKit
set_option linter.unusedSectionVars false
open Go.Proofs.YtecjodcaeldidaaGreatDoor.G (GOK)
/-- A frame that stops as soon as it has been handed a value. -/
def dummyFr : Frame := { fn := 0, tmps := #[undef], todo := [.extern "x" #[], .code (.refuse "x")], defers := [], mode := .run, kind := .normal }

/-- What is said of an operation's value: it may speak of the value of one operand. -/
abbrev RsT := Nat → Option (Option Operand × (Value → Value → World → Prop))
def evalO (ρ : Operand → Value) : Option Operand → Value
  | none => undef
  | some x => ρ x
theorem eval_put_of {ops : Array Oper} {o : Oper} {a : Act} {dst : Option Tmp} {v : Value} (h : ∀ d, dst = some d → d ∉ o.looksAt ops) : ∀ x ∈ o.op.operands, (a.put dst v).eval x = a.eval x :=
  fun x hx => Act.eval_put fun d hd hxd => h d hd (by
    subst hxd
    exact List.mem_append_left _ (List.mem_filterMap.2 ⟨.tmp d, by simpa using hx, rfl⟩))
section
variable {G : World → World → Prop} [GOK G] {P : Program} {ops : Array Oper} {md : Region.Mode} {Rs : RsT} {W : World}

abbrev Env := Nat → World → Prop
def Env.put (E : Env) (i : Nat) (p : World → Prop) : Env := fun j w => (j = i → p w) ∧ E j w
/-- A world that may stand behind some of the region's operations. -/
def All (G : World → World → Prop) (W : World) (E : Env) (w : World) : Prop := G W w ∧ ∀ i, E i w
/-- .. in which an operation may come up: of what ran ahead, that which it waits for is known. -/
def Cls (G : World → World → Prop) (W : World) (o : Oper) (E : Env) (w : World) : Prop := G W w ∧ ∀ i, (o.after.any fun e => Region.binds .any e && e.on == i) = true → E i w

def sUpon (G : World → World → Prop) (P : Program) (_W w : World) (R : Value → World → Prop) : Result Next → Prop
  | .ok (.value u) w' => G w w' ∧ R u w'
  | .ok .skip w' => G w w' ∧ R undef w'
  | .ok (.enter f args) w' => Calls P f args w' fun e w'' => ∃ u, e = .returned u ∧ G w w'' ∧ R u w''
  | .ok (.row row args) w' => Go.Rows P row args w' fun u w'' => G w w'' ∧ R u w''
  | _ => False
def sAt (G : World → World → Prop) (P : Program) (W : World) (o : Oper) (a : Act) (w : World) (R : Value → World → Prop) : Prop := sUpon G P W w R ((execOp a.eval o).run P w)

def Allowed (Rs : RsT) (j : Nat) (o : Oper) (ρ : Operand → Value) (R : Value → World → Prop) : Prop :=
  match Rs j with
  | some (x, R') => (∀ y, x = some y → y ∈ o.op.operands) ∧ R = R' (evalO ρ x)
  | none => match o.dst with
    | none => R = fun _ _ => True
    | some _ => ∃ u, R = fun v _ => v = u
def Yd (G : World → World → Prop) (P : Program) (ops : Array Oper) (Rs : RsT) (W : World) (j : Nat) (o : Oper) (a : Act) (E : Env) (R : Value → World → Prop) : Prop :=
  (Region.wanted o (yielded ops a.tmps) = true ∧ Allowed Rs j o a.eval R ∧ ∀ w, Cls G W o E w → sAt G P W o a w R) ∨
  (Region.wanted o (yielded ops a.tmps) = false ∧ R = fun v _ => v = undef)
def sOp (G : World → World → Prop) (P : Program) (ops : Array Oper) (Rs : RsT) (W : World) (j : Nat) (K : Act → Env → Prop) (a : Act) (E : Env) : Prop :=
  match ops[j]? with
  | none => K a E
  | some o => ∃ R, Yd G P ops Rs W j o a E R ∧ ∀ v, (∃ w, All G W (E.put j (R v)) w) → K (a.put o.dst v) (E.put j (R v))
def anyS (G : World → World → Prop) (P : Program) (md : Region.Mode) (ops : Array Oper) (Rs : RsT) (W : World) (Q : Act → World → Prop) : Nat → Array Bool → Act → Env → Prop
  | 0, listed, a, E => Region.ready md ops listed = [] ∧ ∀ w, All G W E w → Q a w
  | fuel + 1, listed, a, E =>
    (Region.ready md ops listed = [] → ∀ w, All G W E w → Q a w) ∧
    ∀ i ∈ Region.ready md ops listed, sOp G P ops Rs W i (anyS G P md ops Rs W Q fuel (listed.setIfInBounds i true)) a E

theorem stop_frame (v : Value) (w : World) : ∃ o w', step P (lone (dummyFr.finish v) [] w) = .ended o w' :=
  ⟨_, _, step_lone_ended (by simp [dummyFr, Frame.finish, stepG, stepG.exec]; exact ⟨rfl, rfl⟩)⟩
theorem same_stop {m : Machine} {n n' : Nat} {v v' : Value} {w w' : World} (h : runN P n m = .next (lone (dummyFr.finish v) [] w)) (h' : runN P n' m = .next (lone (dummyFr.finish v') [] w')) : v = v' := by
  obtain ⟨o, wd, hd⟩ := stop_frame (P := P) v w
  obtain ⟨o', wd', hd'⟩ := stop_frame (P := P) v' w'
  rcases Nat.lt_trichotomy n n' with hlt | rfl | hlt
  · have e : n' = n + (n' - n - 1 + 1) := by omega
    rw [e, runN_add, h] at h'
    simp [runN, hd] at h'
  · rw [h] at h'
    have e := Stepped.next.inj h'
    simp [lone, dummyFr, Frame.finish] at e
    exact e.2
  · have e : n = n' + (n - n' - 1 + 1) := by omega
    rw [e, runN_add, h'] at h
    simp [runN, hd'] at h
theorem Calls.stops {f : FuncId} {args : Array Value} {w : World} {u : Value} {X : World → Prop} (h : Calls P f args w fun e w'' => ∃ v, e = .returned v ∧ X w'' ∧ v = u) :
    ∃ n w', runN P n (lone (Frame.enter P f args .normal) [dummyFr] w) = .next (lone (dummyFr.finish u) [] w') := by
  obtain ⟨e, w1, fr, ⟨v, rfl, _, rfl⟩, hc, hfn, hl⟩ := h [dummyFr]
  obtain ⟨n, hn⟩ := hc
  refine ⟨n + 1, w1, ?_⟩
  rw [runN_add, hn]
  simp [runN, step_leave_returned hl]
/-- A call hands back one value. -/
theorem Calls.one_value {f : FuncId} {args : Array Value} {w : World} {u u' : Value} {X X' : World → Prop} (h : Calls P f args w fun e w'' => ∃ v, e = .returned v ∧ X w'' ∧ v = u)
    (h' : Calls P f args w fun e w'' => ∃ v, e = .returned v ∧ X' w'' ∧ v = u') : u = u' := by
  obtain ⟨n, w1, hn⟩ := Calls.stops h
  obtain ⟨n', w1', hn'⟩ := Calls.stops h'
  exact same_stop hn hn'
theorem Rows.one_value {row : String} {args : Array Value} {w : World} {u u' : Value} {X X' : World → Prop} (h : Go.Rows P row args w fun v w'' => X w'' ∧ v = u)
    (h' : Go.Rows P row args w fun v w'' => X' w'' ∧ v = u') : u = u' := by
  obtain ⟨v, w1, ⟨_, rfl⟩, n, hn⟩ := h dummyFr []
  obtain ⟨v', w1', ⟨_, rfl⟩, n', hn'⟩ := h' dummyFr []
  exact same_stop hn hn'

def Mono (G : World → World → Prop) (R : Value → World → Prop) : Prop := ∀ v w w', G w w' → R v w → R v w'
def EMono (G : World → World → Prop) (E : Env) : Prop := ∀ i w w', G w w' → E i w → E i w'
def RsMono (G : World → World → Prop) (Rs : RsT) : Prop := ∀ j x R, Rs j = some (x, R) → ∀ u, Mono G (R u)

theorem EMono.put {E : Env} (h : EMono G E) {i : Nat} {R : Value → World → Prop} (hR : Mono G R) (v : Value) : EMono G (E.put i (R v)) :=
  fun j w w' hx ⟨h1, h2⟩ => ⟨fun e => hR _ _ _ hx (h1 e), h j w w' hx h2⟩
theorem Allowed.mono (hRs : RsMono G Rs) {j : Nat} {o : Oper} {ρ : Operand → Value} {R : Value → World → Prop} (h : Allowed Rs j o ρ R) : Mono G R := by
  unfold Allowed at h
  split at h
  · rename_i x R' h'; obtain ⟨_, rfl⟩ := h; exact hRs _ _ _ h' _
  · split at h
    · subst h; exact fun _ _ _ _ e => e
    · obtain ⟨u, rfl⟩ := h; exact fun _ _ _ _ e => e
theorem Yd.mono (hRs : RsMono G Rs) {j : Nat} {o : Oper} {a : Act} {E : Env} {R : Value → World → Prop} (h : Yd G P ops Rs W j o a E R) : Mono G R := by
  rcases h with ⟨_, h, _⟩ | ⟨_, rfl⟩
  · exact h.mono hRs
  · exact fun _ _ _ _ e => e
theorem All.cls {E : Env} {w : World} (h : All G W E w) (o : Oper) : Cls G W o E w := ⟨h.1, fun i _ => h.2 i⟩
theorem All.drop {E : Env} {i : Nat} {p : World → Prop} {w : World} (h : All G W (E.put i p) w) : All G W E w := ⟨h.1, fun j => (h.2 j).2⟩
theorem All.put {E : Env} {i : Nat} {p : World → Prop} {w : World} (h : All G W E w) (hp : p w) : All G W (E.put i p) w := ⟨h.1, fun j => ⟨fun _ => hp, h.2 j⟩⟩
theorem All.ext {E : Env} (hE : EMono G E) {w w' : World} (h : All G W E w) (hx : G w w') : All G W E w' := ⟨GOK.trans h.1 hx, fun i => hE i _ _ hx (h.2 i)⟩
theorem sAt.exists {o : Oper} {a : Act} {w : World} {R : Value → World → Prop} (h : sAt G P W o a w R) : ∃ v w', G w w' ∧ R v w' := by
  unfold sAt at h
  generalize (execOp a.eval o).run P w = r at h
  cases r with
  | ok n w' =>
    cases n <;> simp only [sUpon] at h
    case value u => exact ⟨u, w', h⟩
    case skip => exact ⟨undef, w', h⟩
    case enter f args =>
      obtain ⟨e, w'', _, ⟨u, _, hx, hR⟩, _⟩ := h []
      exact ⟨u, w'', hx, hR⟩
    case row row args =>
      obtain ⟨u, w'', ⟨hx, hR⟩, _⟩ := h dummyFr []
      exact ⟨u, w'', hx, hR⟩
  | halt x w' => simp only [sUpon] at h
theorem Yd.exists (hRs : RsMono G Rs) {j : Nat} {o : Oper} {a : Act} {E : Env} {R : Value → World → Prop} (h : Yd G P ops Rs W j o a E R) (hE : EMono G E) {w : World} (hw : All G W E w) : ∃ v w', All G W (E.put j (R v)) w' := by
  have hm := h.mono hRs
  rcases h with ⟨_, _, h⟩ | ⟨_, rfl⟩
  · obtain ⟨v, w', hx, hR⟩ := (h w (hw.cls o)).exists
    exact ⟨v, w', (hw.ext hE hx).put hR⟩
  · exact ⟨undef, w, hw.put rfl⟩
theorem sAt.const_eq {o : Oper} {a : Act} {w : World} {u u' : Value} (h : sAt G P W o a w fun v _ => v = u) (h' : sAt G P W o a w fun v _ => v = u') : u = u' := by
  unfold sAt at h h'
  generalize (execOp a.eval o).run P w = r at h h'
  cases r with
  | ok n w' =>
    cases n <;> simp only [sUpon] at h h'
    case value x => exact h.2.symm.trans h'.2
    case skip => exact h.2.symm.trans h'.2
    case enter f args =>
      exact Calls.one_value h h'
    case row row args => exact Rows.one_value h h'
  | halt x w' => simp only [sUpon] at h
theorem Yd.unique {j : Nat} {o : Oper} {a : Act} {E : Env} {R R' : Value → World → Prop} (h : Yd G P ops Rs W j o a E R) (h' : Yd G P ops Rs W j o a E R') {w : World} (hw : Cls G W o E w) : R = R' := by
  rcases h with ⟨hn, ha, h⟩ | ⟨hn, rfl⟩ <;> rcases h' with ⟨hn', ha', h'⟩ | ⟨hn', rfl⟩
  · unfold Allowed at ha ha'
    split at ha
    · rename_i x R0 h0
      simp only [h0] at ha'
      rw [ha.2, ha'.2]
    · rename_i h0
      simp only [h0] at ha'
      split at ha
      · rename_i h1
        simp only [h1] at ha'
        rw [ha, ha']
      · rename_i d h1
        simp only [h1] at ha'
        obtain ⟨u, rfl⟩ := ha
        obtain ⟨u', rfl⟩ := ha'
        rw [(h w hw).const_eq (h' w hw)]
  · rw [hn] at hn'; cases hn'
  · rw [hn] at hn'; cases hn'
  · rfl
theorem Yd.of_same {j : Nat} {o : Oper} {a a' : Act} {E E' : Env} {R : Value → World → Prop} (h : Yd G P ops Rs W j o a E R) (hv : ∀ x ∈ o.op.operands, a'.eval x = a.eval x) (he : execOp a'.eval o = execOp a.eval o)
    (hw : Region.wanted o (yielded ops a'.tmps) = Region.wanted o (yielded ops a.tmps)) (hc : ∀ w, Cls G W o E' w → Cls G W o E w) : Yd G P ops Rs W j o a' E' R := by
  have hA : Allowed Rs j o a.eval R → Allowed Rs j o a'.eval R := by
    unfold Allowed
    split
    · rename_i x R' _
      rintro ⟨h1, h2⟩
      refine ⟨h1, h2.trans ?_⟩
      cases x with
      | none => rfl
      | some y => show R' (a.eval y) = R' (a'.eval y); rw [hv y (h1 y rfl)]
    · exact id
  unfold Yd sAt at *
  rw [he, hw]
  exact h.imp (fun ⟨h1, h2, h3⟩ => ⟨h1, hA h2, fun w hw => h3 w (hc w hw)⟩) id
theorem Env.put_comm (E : Env) {i j : Nat} (p q : World → Prop) : (E.put i p).put j q = (E.put j q).put i p := by
  funext k w
  exact propext ⟨fun ⟨a, b, c⟩ => ⟨b, a, c⟩, fun ⟨a, b, c⟩ => ⟨b, a, c⟩⟩
theorem cls_put {o : Oper} {E : Env} {i : Nat} {p : World → Prop} {w : World} (hi : ∀ e ∈ o.after, Region.binds .any e = true → e.on ≠ i) (h : Cls G W o E w) : Cls G W o (E.put i p) w :=
  ⟨h.1, fun k hk => ⟨fun e => by
    subst e
    obtain ⟨e, he, hb⟩ := Array.any_eq_true'.1 hk
    simp only [Bool.and_eq_true, beq_iff_eq] at hb
    exact absurd hb.2 (hi e he hb.1), h.2 k hk⟩⟩
theorem cls_drop {o : Oper} {E : Env} {i : Nat} {p : World → Prop} {w : World} (h : Cls G W o (E.put i p) w) : Cls G W o E w := ⟨h.1, fun k hk => (h.2 k hk).2⟩

theorem anyS_first (hRs : RsMono G Rs) {Q : Act → World → Prop} {i : Nat} {oi : Oper} (hi : ops[i]? = some oi) (hsel : ∀ (j : Nat) (o : Oper) cs b, ops[j]? = some o → o.op ≠ .select cs b) :
    ∀ (fuel : Nat) (listed : Array Bool) (a : Act) (E : Env) (R : Value → World → Prop), EMono G E → (∃ w, All G W E w) →
      (∀ j oj, ops[j]? = some oj → j ≠ i → listed.getD j true = false → (∀ e ∈ oj.after, Region.binds .any e = true → e.on ≠ i) → oi.apart ops oj = true) →
      i ∈ Region.ready .any ops listed → Yd G P ops Rs W i oi a E R →
      (∀ v, (∃ w, All G W (E.put i (R v)) w) → anyS G P .any ops Rs W Q fuel (listed.setIfInBounds i true) (a.put oi.dst v) (E.put i (R v))) → anyS G P .any ops Rs W Q (fuel + 1) listed a E := by
  have self : ∀ (fuel : Nat) (listed : Array Bool) (a : Act) (E : Env) (R : Value → World → Prop), Yd G P ops Rs W i oi a E R →
      (∀ v, (∃ w, All G W (E.put i (R v)) w) → anyS G P .any ops Rs W Q fuel (listed.setIfInBounds i true) (a.put oi.dst v) (E.put i (R v))) →
      sOp G P ops Rs W i (anyS G P .any ops Rs W Q fuel (listed.setIfInBounds i true)) a E := fun fuel listed a E R hy H => by
    unfold sOp
    simp only [hi]
    exact ⟨R, hy, H⟩
  intro fuel
  induction fuel with
  | zero =>
    intro listed a E R hE hex _ hr hy H
    refine ⟨fun h => (by rw [h] at hr; cases hr), fun j hj => ?_⟩
    by_cases hji : j = i
    · subst hji; exact self _ _ _ _ _ hy H
    · have h1 := ready_mono hj hji
      obtain ⟨w, hw⟩ := hex
      obtain ⟨v, w', hw'⟩ := hy.exists hRs hE hw
      rw [(H v ⟨w', hw'⟩).1] at h1
      cases h1
  | succ fuel ih =>
    intro listed a E R hE hex hfree hr hy H
    refine ⟨fun h => (by rw [h] at hr; cases hr), fun j hj => ?_⟩
    by_cases hji : j = i
    · subst hji; exact self _ _ _ _ _ hy H
    · obtain ⟨w0, hw0⟩ := hex
      obtain ⟨v0, w0', hw0'⟩ := hy.exists hRs hE hw0
      obtain ⟨hjun, oj, hoj, hall⟩ := mem_ready.1 hj
      have hnot : ∀ e ∈ oj.after, Region.binds .any e = true → e.on ≠ i := fun e he hb heq => by
        have h1 := hall e he hb
        have h0 := (mem_ready.1 hr).1
        rw [heq] at h1
        rcases Nat.lt_or_ge i listed.size with h' | h'
        · simp [h'] at h0 h1; rw [h0] at h1; cases h1
        · simp [Array.getElem?_eq_none h'] at h1
      have hap := hfree j oj hoj hji hjun hnot
      obtain ⟨p1, p2, p3⟩ := Oper.apart_spec hap
      have hsi := fun cs b => hsel i oi cs b hi
      have hsj := fun cs b => hsel j oj cs b hoj
      have stepj : ∀ v, (∃ w, All G W (E.put i (R v)) w) → ∃ Rj, Yd G P ops Rs W j oj a E Rj ∧
          ∀ u, (∃ w, All G W ((E.put i (R v)).put j (Rj u)) w) → anyS G P .any ops Rs W Q fuel ((listed.setIfInBounds i true).setIfInBounds j true) ((a.put oi.dst v).put oj.dst u) ((E.put i (R v)).put j (Rj u)) := fun v hv => by
        have h1 := (H v hv).2 j (ready_mono hj hji)
        unfold sOp at h1
        simp only [hoj] at h1
        obtain ⟨Rj, hyj, hK⟩ := h1
        exact ⟨Rj, hyj.of_same (fun x hx => (eval_put_of p1 x hx).symm) (execOp_put oj hsj a oi.dst v p1).symm (wanted_put oj a oi.dst v p1).symm (fun w hw => cls_put hnot hw), hK⟩
      obtain ⟨Rj, hyj, _⟩ := stepj v0 ⟨w0', hw0'⟩
      unfold sOp
      simp only [hoj]
      refine ⟨Rj, hyj, fun u hu => ?_⟩
      have hfree' : ∀ k ok, ops[k]? = some ok → k ≠ i → (listed.setIfInBounds j true).getD k true = false →
          (∀ e ∈ ok.after, Region.binds .any e = true → e.on ≠ i) → oi.apart ops ok = true := fun k ok hk hki hun hno => by
        refine hfree k ok hk hki ?_ hno
        by_cases hjk : j = k
        · subst hjk; exact hjun
        · rw [getD_set_ne true hjk] at hun; exact hun
      refine ih (listed.setIfInBounds j true) (a.put oj.dst u) (E.put j (Rj u)) R (hE.put (hyj.mono hRs) u) hu hfree' (ready_mono hr (Ne.symm hji))
        (hy.of_same (eval_put_of p3) (execOp_put oi hsi a oj.dst u p3) (wanted_put oi a oj.dst u p3) (fun w hw => cls_drop hw)) ?_
      intro v hv
      rw [Env.put_comm] at hv
      obtain ⟨w1, hw1⟩ := hv
      obtain ⟨Rj', hyj', hK⟩ := stepj v ⟨w1, hw1.drop⟩
      have e := hyj.unique hyj' (hw0.cls oj)
      subst e
      have := hK u ⟨w1, hw1⟩
      rw [Array.setIfInBounds_comm _ _ hji, ← Act.put_comm a v u p2, Env.put_comm]
      rw [Env.put_comm] at this
      rw [Env.put_comm]
      exact this

theorem wp_of_sAt {o : Oper} {a : Act} {w : World} {R : Value → World → Prop} {K : Act → World → Prop} {Q : Exit → Act → World → Prop} (h : sAt G P W o a w R) (hK : ∀ v w', G w w' → R v w' → K (a.put o.dst v) w') : o.wp P a w K Q := by
  unfold sAt at h
  unfold Oper.wp
  generalize (execOp a.eval o).run P w = r at h
  cases r with
  | ok n w' =>
    cases n <;> simp only [sUpon] at h <;> simp only [Oper.upon]
    case value u => exact hK _ _ h.1 h.2
    case skip => exact hK _ _ h.1 h.2
    case enter f args =>
      exact h.mono fun e w'' ⟨u, he, hx, hR⟩ => by subst he; exact hK _ _ hx hR
    case row row args => exact h.mono fun u w'' ⟨hx, hR⟩ => hK _ _ hx hR
  | halt x w' => simp only [sUpon] at h

theorem wpAny_of_anyS (hRs : RsMono G Rs) {Q : Act → World → Prop} {Q' : Exit → Act → World → Prop} (hQ : ∀ a w, Q a w → Q' .normal a w) : ∀ (fuel : Nat) (listed : Array Bool) (a : Act) (E : Env) (w : World), EMono G E → All G W E w →
    anyS G P md ops Rs W Q fuel listed a E → wpAny P md ops Q' fuel listed a w
  | 0, _, _, _, w, _, hw, h => ⟨h.1, hQ _ _ (h.2 w hw)⟩
  | fuel + 1, listed, a, E, w, hE, hw, h => ⟨fun h0 => hQ _ _ (h.1 h0 w hw), fun i hi => by
      have h1 := h.2 i hi
      unfold sOp at h1
      unfold wpOp
      split
      · rename_i ho; simp only [ho] at h1; exact wpAny_of_anyS hRs hQ fuel _ _ _ _ hE hw h1
      · rename_i o ho
        simp only [ho] at h1
        obtain ⟨R, hy, hK⟩ := h1
        have hm := hy.mono hRs
        rcases hy with ⟨hn, _, hs⟩ | ⟨hn, rfl⟩
        · rw [if_pos hn]
          exact .inl (wp_of_sAt (hs w (hw.cls o)) fun v w' hx hR => by
            have hw' := (hw.ext hE hx).put (i := i) hR
            exact wpAny_of_anyS hRs hQ fuel _ _ _ _ (hE.put hm v) hw' (hK v ⟨w', hw'⟩))
        · rw [if_neg (by rw [hn]; exact Bool.false_ne_true)]
          have hw' := hw.put (i := i) (p := fun _ => undef = undef) rfl
          exact wpAny_of_anyS hRs hQ fuel _ _ _ _ (hE.put hm undef) hw' (hK undef ⟨w, hw'⟩)⟩

/-- The walk in the order of the text: operation number k stands next. -/
def wpS (G : World → World → Prop) (P : Program) (ops : Array Oper) (Rs : RsT) (W : World) (Q : Act → World → Prop) : Nat → List Oper → Act → Env → Prop
  | _, [], a, E => ∀ w, All G W E w → Q a w
  | k, o :: rest, a, E => ∃ R, Yd G P ops Rs W k o a E R ∧ ∀ v, (∃ w, All G W (E.put k (R v)) w) → wpS G P ops Rs W Q (k + 1) rest (a.put o.dst v) (E.put k (R v))

theorem anyS_lex (hRs : RsMono G Rs) {Q : Act → World → Prop} (hs : Region.noSelect ops = true) : ∀ (l : List Oper) (k : Nat) (listed : Array Bool) (a : Act) (E : Env), (∀ j, l[j]? = ops[k + j]?) →
    Region.lexFrom .any ops l.length k listed = true → EMono G E → (∃ w, All G W E w) → wpS G P ops Rs W Q k l a E → anyS G P .any ops Rs W Q l.length listed a E
  | [], _, _, _, _, _, hB, _, _, h => ⟨by simpa [Region.lexFrom] using hB, h⟩
  | o :: l, k, listed, a, E, hl, hB, hE, hex, h => by
    have h0 : ops[k]? = some o := by simpa using (hl 0).symm
    simp only [List.length_cons, Region.lexFrom, Bool.and_eq_true] at hB
    obtain ⟨⟨hr, hf⟩, hB'⟩ := hB
    obtain ⟨R, hy, hK⟩ := h
    exact anyS_first hRs h0 (Region.noSelect_spec hs) l.length listed a E R hE hex (Region.free_spec h0 hf) (by simpa using hr) hy
      (fun v hv => anyS_lex hRs hs l (k + 1) _ _ _ (fun j => by have := hl (j + 1); simpa [Nat.add_assoc, Nat.add_comm 1 j] using this) hB' (hE.put (hy.mono hRs) v) hv (hK v hv))

/-- ONE WALK IN THE ORDER OF THE TEXT SERVES EVERY ORDER. -/
theorem wp_region_stab (Rs : RsT) {id : Nat} {Q : Exit → Act → World → Prop} {a : Act} {w : World} {l : List Oper} (hm : P.follows .mixedOrders = true) (hB : Region.lexB .any l.toArray = true) (hRs : RsMono G Rs)
    (h : (∃ w', All G w (fun _ _ => True) w') → wpS G P l.toArray Rs w (Q .normal) 0 l a (fun _ _ => True)) : (Code.region id l.toArray true).wp P Q a w := by
  simp only [Region.lexB, Bool.and_eq_true] at hB
  have hw : All G w (fun _ _ => True) { w with drawn := w.drawn + 1 } := ⟨GOK.draw w, fun _ => trivial⟩
  have hE : EMono G (fun _ _ => True) := fun _ _ _ _ h => h
  refine wp_region_any hm (wpAny_of_anyS (Rs := Rs) (W := w) hRs (Q := Q .normal) (fun _ _ h => h) _ _ _ (fun _ _ => True) _ hE hw ?_)
  have := anyS_lex hRs (W := w) (P := P) hB.1 l 0 (Array.replicate l.toArray.size false) a (fun _ _ => True) (by simp) (by simpa using hB.2) hE ⟨_, hw⟩ (h ⟨_, hw⟩)
  simpa using this

/-! The steps. -/
theorem put_value {a A : Act} {d : Nat} {v : Value} (hlt : d < a.tmps.size) (h : a.put (some d) v = A) : v = A.tmps.getD d undef := by
  subst h
  simp [Act.put, hlt]
/-- What one operation alone comes to. -/
theorem sAt_of_wpList {o : Oper} {a : Act} {w : World} {K : Act → World → Prop} {R : Value → World → Prop} (hn : Region.wanted o (yielded ops a.tmps) = true)
    (h : wpList P ops (Exit.then K fun _ _ _ => False) [o] a w) (hK : ∀ v w', K (a.put o.dst v) w' → G w w' ∧ R v w') (hD : ∀ d w', ¬ K ({ a with defers := d :: a.defers }.put o.dst undef) w') : sAt G P W o a w R := by
  simp only [wpList] at h
  rw [if_pos hn] at h
  rcases h with h | ⟨_, a', w', h⟩
  · unfold Oper.wp at h
    unfold sAt
    generalize (execOp a.eval o).run P w = r at h
    cases r with
    | ok n w' =>
      cases n <;> simp only [Oper.upon, Exit.then] at h <;> simp only [sUpon]
      case value u => exact hK _ _ h
      case skip => exact hK _ _ h
      case defer d => exact absurd h (hD d w')
      case enter f args =>
        refine h.mono fun e w'' he => ?_
        cases e with
        | returned u => exact ⟨u, rfl, (hK _ _ he).1, (hK _ _ he).2⟩
        | panicked c => exact he.elim
        | outgrown => obtain ⟨_, _, he⟩ := he; exact he.elim
      case row row args => exact h.mono fun u w'' he => hK _ _ he
      all_goals exact h
    | halt x w' => cases x <;> simp only [Oper.upon, Exit.then] at h
  · exact h.elim
theorem Env.put_same (E : Env) (k : Nat) (u : Value) : (E.put k fun _ => u = u) = E := by
  funext i w
  exact propext ⟨fun h => h.2, fun h => ⟨fun _ => rfl, h⟩⟩
theorem Env.put_true (E : Env) (k : Nat) : (E.put k fun _ => True) = E := by
  funext i w
  exact propext ⟨fun h => h.2, fun h => ⟨fun _ => trivial, h⟩⟩
theorem put_defers_ne {a : Act} {dst : Option Tmp} {x : Deferred} {A : Act} (hA : A.defers = a.defers) : ({ a with defers := x :: a.defers } : Act).put dst undef ≠ A := by
  intro h
  have e : (({ a with defers := x :: a.defers } : Act).put dst undef).defers = x :: a.defers := by cases dst <;> rfl
  rw [h, hA] at e
  have := congrArg List.length e
  simp at this
theorem wpList_skip {o : Oper} {a : Act} {w : World} {K : Act → World → Prop} (hn : Region.wanted o (yielded ops a.tmps) = false) (h : wpList P ops (Exit.then K fun _ _ _ => False) [o] a w) : K (a.put o.dst undef) w := by
  simp only [wpList] at h
  rw [if_neg (by rw [hn]; exact Bool.false_ne_true)] at h
  exact h

/-- One operation, run alone, hands on one frame, whatever the world. -/
theorem wpS_one {Q : Act → World → Prop} {k : Nat} {o : Oper} {rest : List Oper} {a A : Act} {E : Env} {d : Nat} (hex : ∃ w, All G W E w) (hk : Rs k = none) (hd : o.dst = some d) (hlt : d < a.tmps.size) (hA : A.defers = a.defers)
    (h1 : ∀ w, Cls G W o E w → ∀ K : Act → World → Prop, (∀ w', G w w' → K A w') → wpList P ops (Exit.then K fun _ _ _ => False) [o] a w)
    (h2 : (∃ w, All G W E w) → wpS G P ops Rs W Q (k + 1) rest A E) : wpS G P ops Rs W Q k (o :: rest) a E := by
  obtain ⟨w, hw⟩ := hex
  have run := fun w' (hw' : Cls G W o E w') => h1 w' hw' (fun a' w'' => a' = A ∧ G w' w'') fun w'' hx => ⟨rfl, hx⟩
  by_cases hn : Region.wanted o (yielded ops a.tmps) = true
  · have key : ∀ w', Cls G W o E w' → sAt G P W o a w' fun u _ => a.put o.dst u = A := fun w' hw' =>
      sAt_of_wpList hn (run w' hw') (fun v w'' h => ⟨h.2, h.1⟩) (fun x w'' h => put_defers_ne hA h.1)
    obtain ⟨v, w1, hx, hv⟩ := (key w (hw.cls o)).exists
    refine ⟨fun u _ => u = v, .inl ⟨hn, by unfold Allowed; rw [hk, hd]; exact ⟨v, rfl⟩, fun w' hw' => ?_⟩, fun u hu => ?_⟩
    · have h := run w' hw'
      refine sAt_of_wpList hn h (fun u w'' h => ⟨h.2, ?_⟩) (fun x w'' h => put_defers_ne hA h.1)
      rw [hd] at h hv
      rw [put_value hlt h.1, put_value hlt hv]
    · obtain ⟨w2, hw2⟩ := hu
      have e : u = v := (hw2.2 k).1 rfl
      subst e
      rw [hv]
      show wpS G P ops Rs W Q (k + 1) rest A (E.put k fun _ => u = u)
      rw [Env.put_same]
      exact h2 ⟨w2, hw2.drop⟩
  · have hn' : Region.wanted o (yielded ops a.tmps) = false := by simpa using hn
    have hv := (wpList_skip hn' (run w (hw.cls o))).1
    refine ⟨fun u _ => u = undef, .inr ⟨hn', rfl⟩, fun u hu => ?_⟩
    obtain ⟨w2, hw2⟩ := hu
    have e : u = undef := (hw2.2 k).1 rfl
    subst e
    rw [hv]
    show wpS G P ops Rs W Q (k + 1) rest A (E.put k fun _ => undef = undef)
    rw [Env.put_same]
    exact h2 ⟨w2, hw2.drop⟩
/-- .. one that hands on nothing. -/
theorem wpS_none {Q : Act → World → Prop} {k : Nat} {o : Oper} {rest : List Oper} {a : Act} {E : Env} (_hex : ∃ w, All G W E w) (hk : Rs k = none) (hd : o.dst = none)
    (h1 : ∀ w, Cls G W o E w → ∀ K : Act → World → Prop, (∀ w', G w w' → K a w') → wpList P ops (Exit.then K fun _ _ _ => False) [o] a w)
    (h2 : (∃ w, All G W E w) → wpS G P ops Rs W Q (k + 1) rest a E) : wpS G P ops Rs W Q k (o :: rest) a E := by
  have e : ∀ v, a.put o.dst v = a := fun v => by rw [hd]; rfl
  have run := fun w' (hw' : Cls G W o E w') => h1 w' hw' (fun a' w'' => a' = a ∧ G w' w'') fun w'' hx => ⟨rfl, hx⟩
  by_cases hn : Region.wanted o (yielded ops a.tmps) = true
  · refine ⟨fun _ _ => True, .inl ⟨hn, by unfold Allowed; rw [hk, hd], fun w' hw' => ?_⟩, fun u hu => ?_⟩
    · exact sAt_of_wpList hn (run w' hw') (fun v w'' h => ⟨h.2, trivial⟩) (fun x w'' h => put_defers_ne rfl h.1)
    · rw [e, Env.put_true]
      obtain ⟨w2, hw2⟩ := hu
      exact h2 ⟨w2, hw2.drop⟩
  · have hn' : Region.wanted o (yielded ops a.tmps) = false := by simpa using hn
    refine ⟨fun u _ => u = undef, .inr ⟨hn', rfl⟩, fun u hu => ?_⟩
    obtain ⟨w2, hw2⟩ := hu
    have e' : u = undef := (hw2.2 k).1 rfl
    subst e'
    rw [e]
    show wpS G P ops Rs W Q (k + 1) rest a (E.put k fun _ => undef = undef)
    rw [Env.put_same]
    exact h2 ⟨w2, hw2.drop⟩
/-- One operation of whose value something is said. -/
theorem wpS_rel {Q : Act → World → Prop} {k : Nat} {o : Oper} {rest : List Oper} {a : Act} {E : Env} {d : Nat} (x : Option Operand) (R : Value → Value → World → Prop) (hk : Rs k = some (x, R)) (hx : ∀ y, x = some y → y ∈ o.op.operands) (hd : o.dst = some d) (hlt : d < a.tmps.size) (hn : Region.wanted o (yielded ops a.tmps) = true)
    (h1 : ∀ w, Cls G W o E w → ∀ K : Act → World → Prop, (∀ v w', G w w' → R (evalO a.eval x) v w' → K (a.put (some d) v) w') → wpList P ops (Exit.then K fun _ _ _ => False) [o] a w)
    (h2 : ∀ v w, All G W (E.put k (R (evalO a.eval x) v)) w → R (evalO a.eval x) v w → wpS G P ops Rs W Q (k + 1) rest (a.put (some d) v) (E.put k (R (evalO a.eval x) v))) : wpS G P ops Rs W Q k (o :: rest) a E := by
  refine ⟨R (evalO a.eval x), .inl ⟨hn, by unfold Allowed; rw [hk]; exact ⟨hx, rfl⟩, fun w' hw' => ?_⟩, fun u hu => ?_⟩
  · have h := h1 w' hw' (fun a' w'' => ∃ v, a' = a.put (some d) v ∧ G w' w'' ∧ R (evalO a.eval x) v w'') fun v w'' hx hR => ⟨v, rfl, hx, hR⟩
    refine sAt_of_wpList hn h (fun u w'' h => ?_) (fun x w'' h => ?_)
    · obtain ⟨v, e, hx, hR⟩ := h
      rw [hd] at e
      have e1 := put_value hlt e
      rw [put_value hlt (rfl : a.put (some d) v = a.put (some d) v)] at hR
      rw [e1]
      exact ⟨hx, hR⟩
    · obtain ⟨v, e, _, _⟩ := h
      exact put_defers_ne (a := a) (A := a.put (some d) v) rfl e
  · obtain ⟨w2, hw2⟩ := hu
    rw [hd]
    exact h2 u w2 hw2 ((hw2.2 k).1 rfl)
/-- .. one that hands on nothing (a store). -/
theorem wpS_said {Q : Act → World → Prop} {k : Nat} {o : Oper} {rest : List Oper} {a : Act} {E : Env} (x : Option Operand) (R : Value → Value → World → Prop) (hk : Rs k = some (x, R)) (hx : ∀ y, x = some y → y ∈ o.op.operands) (hd : o.dst = none) (hn : Region.wanted o (yielded ops a.tmps) = true)
    (hR0 : ∀ u v v' w, R u v w → R u v' w)
    (h1 : ∀ w, Cls G W o E w → ∀ K : Act → World → Prop, (∀ w', G w w' → R (evalO a.eval x) undef w' → K a w') → wpList P ops (Exit.then K fun _ _ _ => False) [o] a w)
    (h2 : (∃ w, All G W (E.put k (R (evalO a.eval x) undef)) w) → wpS G P ops Rs W Q (k + 1) rest a (E.put k (R (evalO a.eval x) undef))) : wpS G P ops Rs W Q k (o :: rest) a E := by
  have e : ∀ v, a.put o.dst v = a := fun v => by rw [hd]; rfl
  have hRe : ∀ v, R (evalO a.eval x) v = R (evalO a.eval x) undef := fun v => funext fun w => propext ⟨hR0 _ _ _ _, hR0 _ _ _ _⟩
  refine ⟨R (evalO a.eval x), .inl ⟨hn, by unfold Allowed; rw [hk]; exact ⟨hx, rfl⟩, fun w' hw' => ?_⟩, fun u hu => ?_⟩
  · have h := h1 w' hw' (fun a' w'' => a' = a ∧ G w' w'' ∧ R (evalO a.eval x) undef w'') fun w'' hx hR => ⟨rfl, hx, hR⟩
    exact sAt_of_wpList hn h (fun u w'' h => ⟨h.2.1, hR0 _ _ _ _ h.2.2⟩) (fun x w'' h => put_defers_ne rfl h.1)
  · rw [e]
    rw [hRe u] at hu ⊢
    exact h2 hu
theorem wpS_nil {Q : Act → World → Prop} {k : Nat} {a : Act} {E : Env} (h : ∀ w, All G W E w → Q a w) : wpS G P ops Rs W Q k [] a E := h
end
section
variable {G : World → World → Prop} [GOK G] {P : Program} {ops : Array Oper} {Rs : RsT} {W : World}
def anyL (G : World → World → Prop) (P : Program) (ops : Array Oper) (Rs : RsT) (W : World) (n : Nat) (L : Array Bool → Act → Env → Prop) : Nat → Array Bool → Act → Env → Prop
  | 0, listed, a, E => L listed a E
  | f + 1, listed, a, E =>
    Region.ready .any ops listed ≠ [] ∧ ∀ i ∈ Region.ready .any ops listed, i < n ∧ sOp G P ops Rs W i (anyL G P ops Rs W n L f (listed.setIfInBounds i true)) a E
theorem wpAny_of_anyL (hRs : RsMono G Rs) {n g : Nat} {L : Array Bool → Act → Env → Prop} {Q' : Exit → Act → World → Prop} (hL : ∀ listed a E w, All G W E w → L listed a E → wpAny P .any ops Q' g listed a w) :
    ∀ (f : Nat) (listed : Array Bool) (a : Act) (E : Env) (w : World), EMono G E → All G W E w → anyL G P ops Rs W n L f listed a E → wpAny P .any ops Q' (f + g) listed a w
  | 0, listed, a, E, w, _, hw, h => by rw [Nat.zero_add]; exact hL _ _ _ _ hw h
  | f + 1, listed, a, E, w, hE, hw, h => by
    rw [show f + 1 + g = (f + g) + 1 by omega]
    refine ⟨fun h0 => absurd h0 h.1, fun i hi => ?_⟩
    have h1 := (h.2 i hi).2
    unfold sOp at h1
    unfold wpOp
    split
    · rename_i ho; simp only [ho] at h1; exact wpAny_of_anyL hRs hL f _ _ _ _ hE hw h1
    · rename_i o ho
      simp only [ho] at h1
      obtain ⟨R, hy, hK⟩ := h1
      have hm := hy.mono hRs
      rcases hy with ⟨hn, _, hs⟩ | ⟨hn, rfl⟩
      · rw [if_pos hn]
        exact .inl (wp_of_sAt (hs w (hw.cls o)) fun v w' hx hR => by
          have hw' := (hw.ext hE hx).put (i := i) hR
          exact wpAny_of_anyL hRs hL f _ _ _ _ (hE.put hm v) hw' (hK v ⟨w', hw'⟩))
      · rw [if_neg (by rw [hn]; exact Bool.false_ne_true)]
        have hw' := hw.put (i := i) (p := fun _ => undef = undef) rfl
        exact wpAny_of_anyL hRs hL f _ _ _ _ (hE.put hm undef) hw' (hK undef ⟨w, hw'⟩)
theorem anyL_first (hRs : RsMono G Rs) {n i : Nat} {oi : Oper} {L : Array Bool → Act → Env → Prop} (hi : ops[i]? = some oi) (hsel : ∀ (j : Nat) (o : Oper) cs b, ops[j]? = some o → o.op ≠ .select cs b)
    (hs : Region.sinkB .any ops n = true) (hc : Region.chainB .any ops n = true) (hn : n < ops.size) (hin : i < n)
    (hdone : ∀ listed a E, L listed a E → ∀ j ∈ Region.ready .any ops listed, n ≤ j) :
    ∀ (fuel : Nat) (listed : Array Bool) (a : Act) (E : Env) (R : Value → World → Prop), HeadInv .any ops n listed → EMono G E → (∃ w, All G W E w) →
      (∀ j oj, ops[j]? = some oj → j ≠ i → listed.getD j true = false → (∀ e ∈ oj.after, Region.binds .any e = true → e.on ≠ i) → oi.apart ops oj = true) →
      i ∈ Region.ready .any ops listed → Yd G P ops Rs W i oi a E R →
      (∀ v, (∃ w, All G W (E.put i (R v)) w) → anyL G P ops Rs W n L fuel (listed.setIfInBounds i true) (a.put oi.dst v) (E.put i (R v))) → anyL G P ops Rs W n L (fuel + 1) listed a E := by
  have self : ∀ (fuel : Nat) (listed : Array Bool) (a : Act) (E : Env) (R : Value → World → Prop), Yd G P ops Rs W i oi a E R →
      (∀ v, (∃ w, All G W (E.put i (R v)) w) → anyL G P ops Rs W n L fuel (listed.setIfInBounds i true) (a.put oi.dst v) (E.put i (R v))) →
      sOp G P ops Rs W i (anyL G P ops Rs W n L fuel (listed.setIfInBounds i true)) a E := fun fuel listed a E R hy H => by
    unfold sOp
    simp only [hi]
    exact ⟨R, hy, H⟩
  intro fuel
  induction fuel with
  | zero =>
    intro listed a E R inv hE hex _ hr hy H
    have hun := (mem_ready.1 hr).1
    refine ⟨fun h => (by rw [h] at hr; cases hr), fun j hj => ?_⟩
    have hjn : j < n := by
      rcases Nat.lt_or_ge j n with h | h
      · exact h
      · exact absurd hj (tail_waits hs hc hn inv _ i rfl hin hun j h)
    refine ⟨hjn, ?_⟩
    by_cases hji : j = i
    · subst hji; exact self _ _ _ _ _ hy H
    · obtain ⟨w, hw⟩ := hex
      obtain ⟨v, w', hw'⟩ := hy.exists hRs hE hw
      have := hdone _ _ _ (H v ⟨w', hw'⟩) j (ready_mono hj hji)
      omega
  | succ fuel ih =>
    intro listed a E R inv hE hex hfree hr hy H
    have hun := (mem_ready.1 hr).1
    refine ⟨fun h => (by rw [h] at hr; cases hr), fun j hj => ?_⟩
    have hjn : j < n := by
      rcases Nat.lt_or_ge j n with h | h
      · exact h
      · exact absurd hj (tail_waits hs hc hn inv _ i rfl hin hun j h)
    refine ⟨hjn, ?_⟩
    by_cases hji : j = i
    · subst hji; exact self _ _ _ _ _ hy H
    · obtain ⟨w0, hw0⟩ := hex
      obtain ⟨v0, w0', hw0'⟩ := hy.exists hRs hE hw0
      obtain ⟨hjun, oj, hoj, hall⟩ := mem_ready.1 hj
      have hnot : ∀ e ∈ oj.after, Region.binds .any e = true → e.on ≠ i := fun e he hb heq => by
        have h1 := hall e he hb
        rw [heq, getD_both hun] at h1
        cases h1
      have hap := hfree j oj hoj hji hjun hnot
      obtain ⟨p1, p2, p3⟩ := Oper.apart_spec hap
      have hsi := fun cs b => hsel i oi cs b hi
      have hsj := fun cs b => hsel j oj cs b hoj
      have stepj : ∀ v, (∃ w, All G W (E.put i (R v)) w) → ∃ Rj, Yd G P ops Rs W j oj a E Rj ∧
          ∀ u, (∃ w, All G W ((E.put i (R v)).put j (Rj u)) w) → anyL G P ops Rs W n L fuel ((listed.setIfInBounds i true).setIfInBounds j true) ((a.put oi.dst v).put oj.dst u) ((E.put i (R v)).put j (Rj u)) := fun v hv => by
        have h1 := ((H v hv).2 j (ready_mono hj hji)).2
        unfold sOp at h1
        simp only [hoj] at h1
        obtain ⟨Rj, hyj, hK⟩ := h1
        exact ⟨Rj, hyj.of_same (fun x hx => (eval_put_of p1 x hx).symm) (execOp_put oj hsj a oi.dst v p1).symm (wanted_put oj a oi.dst v p1).symm (fun w hw => cls_put hnot hw), hK⟩
      obtain ⟨Rj, hyj, _⟩ := stepj v0 ⟨w0', hw0'⟩
      unfold sOp
      simp only [hoj]
      refine ⟨Rj, hyj, fun u hu => ?_⟩
      have hfree' : ∀ k ok, ops[k]? = some ok → k ≠ i → (listed.setIfInBounds j true).getD k true = false →
          (∀ e ∈ ok.after, Region.binds .any e = true → e.on ≠ i) → oi.apart ops ok = true := fun k ok hk hki hun hno => by
        refine hfree k ok hk hki ?_ hno
        by_cases hjk : j = k
        · subst hjk; exact hjun
        · rw [getD_set_ne true hjk] at hun; exact hun
      refine ih (listed.setIfInBounds j true) (a.put oj.dst u) (E.put j (Rj u)) R (inv.set hj hjn) (hE.put (hyj.mono hRs) u) hu hfree' (ready_mono hr (Ne.symm hji))
        (hy.of_same (eval_put_of p3) (execOp_put oi hsi a oj.dst u p3) (wanted_put oi a oj.dst u p3) (fun w hw => cls_drop hw)) ?_
      intro v hv
      rw [Env.put_comm] at hv
      obtain ⟨w1, hw1⟩ := hv
      obtain ⟨Rj', hyj', hK⟩ := stepj v ⟨w1, hw1.drop⟩
      have e := hyj.unique hyj' (hw0.cls oj)
      subst e
      have := hK u ⟨w1, hw1⟩
      rw [Array.setIfInBounds_comm _ _ hji, ← Act.put_comm a v u p2, Env.put_comm]
      rw [Env.put_comm] at this
      rw [Env.put_comm]
      exact this
theorem anyL_lex (hRs : RsMono G Rs) {n g : Nat} {Lq : Act → World → Prop} (hsel : Region.noSelect ops = true) (hs : Region.sinkB .any ops n = true) (hc : Region.chainB .any ops n = true) (hn : n < ops.size) :
    ∀ (l : List Oper) (k : Nat) (listed : Array Bool) (a : Act) (E : Env), (∀ j, j < l.length → l[j]? = ops[k + j]?) → k + l.length = n → HeadInv .any ops n listed →
    Region.lexHead .any ops g l.length k listed = true → EMono G E → (∃ w, All G W E w) → wpS G P ops Rs W Lq k l a E →
    anyL G P ops Rs W n (fun listed' a' E' => Region.seqB .any ops g n listed' = true ∧ ∀ w, All G W E' w → Lq a' w) l.length listed a E
  | [], k, listed, a, E, _, hk, _, hB, _, _, h => by
    have : k = n := by simpa using hk
    subst this
    exact ⟨by simpa [Region.lexHead] using hB, h⟩
  | o :: l, k, listed, a, E, hl, hk, inv, hB, hE, hex, h => by
    have h0 : ops[k]? = some o := by simpa using (hl 0 (by simp)).symm
    simp only [List.length_cons, Region.lexHead, Bool.and_eq_true] at hB
    obtain ⟨⟨hr, hf⟩, hB'⟩ := hB
    have hkn : k < n := by simp only [List.length_cons] at hk; omega
    have hr' : k ∈ Region.ready .any ops listed := by simpa using hr
    obtain ⟨R, hy, hK⟩ := h
    exact anyL_first hRs h0 (Region.noSelect_spec hsel) hs hc hn hkn (fun listed' a' E' hL => seqB_ready hL.1) l.length listed a E R inv hE hex (Region.free_spec h0 hf) hr' hy
      (fun v hv => anyL_lex hRs hsel hs hc hn l (k + 1) _ _ _ (fun j hj => by have := hl (j + 1) (by simp; omega); simpa [Nat.add_assoc, Nat.add_comm 1 j] using this) (by simp only [List.length_cons] at hk; omega) (inv.set hr' hkn) hB' (hE.put (hy.mono hRs) v) hv (hK v hv))
/-- ONE WALK OF WHAT STANDS AHEAD, THEN THE TAIL. -/
theorem wp_region_tail (Rs : RsT) {id : Nat} {Q : Exit → Act → World → Prop} {a : Act} {w : World} {l : List Oper} (n : Nat) (hm : P.follows .mixedOrders = true) (hB : Region.lexTailB .any l.toArray n = true) (hRs : RsMono G Rs)
    (h : (∃ w', All G w (fun _ _ => True) w') → wpS G P l.toArray Rs w (fun a' w' => wpList P l.toArray Q (l.drop n) a' w') 0 (l.take n) a (fun _ _ => True)) : (Code.region id l.toArray true).wp P Q a w := by
  simp only [Region.lexTailB, Bool.and_eq_true, decide_eq_true_eq] at hB
  obtain ⟨⟨⟨⟨hsel, hn⟩, hs⟩, hc⟩, hlex⟩ := hB
  have hn' : n < l.length := by simpa using hn
  have htl : (l.take n).length = n := by simp; omega
  have hdl : (l.drop n).length = l.toArray.size - n := by simp
  have inv0 : HeadInv .any l.toArray n (Array.replicate l.toArray.size false) :=
    ⟨by simp, fun j oj _ hl => (by rw [getD_replicate_false] at hl; cases hl), fun t _ ht => getD_in (by simpa using ht) (getD_replicate_false _ _)⟩
  have hw : All G w (fun _ _ => True) { w with drawn := w.drawn + 1 } := ⟨GOK.draw w, fun _ => trivial⟩
  have hE : EMono G (fun _ _ => True) := fun _ _ _ _ h => h
  refine wp_region_any hm ?_
  have hsz : l.toArray.size = (l.take n).length + (l.drop n).length := by rw [htl, hdl]; omega
  rw [hsz]
  refine wpAny_of_anyL hRs (W := w) (n := n) (L := fun listed' a' E' => Region.seqB .any l.toArray (l.toArray.size - n) n listed' = true ∧ ∀ w', All G w E' w' → wpList P l.toArray Q (l.drop n) a' w')
    (fun listed' a' E' w' hw' hL => ?_) _ _ _ (fun _ _ => True) _ hE hw ?_
  · exact wpAny_of_seq (l.drop n) n listed' a' w' (fun j => by simp) (by rw [hdl]; exact hL.1) (hL.2 w' hw')
  · have := anyL_lex hRs (W := w) (P := P) (g := l.toArray.size - n) hsel hs hc hn (l.take n) 0 (Array.replicate l.toArray.size false) a (fun _ _ => True)
      (fun j hj => by rw [htl] at hj; simp [List.getElem?_take_of_lt hj]) (by rw [htl]; omega) inv0 (by rw [htl]; exact hlex) hE ⟨_, hw⟩ (h ⟨_, hw⟩)
    rw [← hsz]
    exact this
end
end Go.Proofs.YtecjodcaeldidaaGreatDoor.H
namespace Go.Proofs.YtecjodcaeldidaaGreatDoor
open Go Go.RowKit
/-- Blocks below B stay; a block above may turn from z to t. -/
def Tn (B : Nat) (z t : Obj) (w w' : World) : Prop := Below B w w' ∧ ∀ k, k < w.heap.size → w'.heap[k]? = w.heap[k]? ∨ (w.heap[k]? = some z ∧ w'.heap[k]? = some t)
instance (B : Nat) (z t : Obj) : G.GOK (Tn B z t) where
  refl w := ⟨Below.refl _ _, fun _ _ => .inl rfl⟩
  trans := fun h k => ⟨h.1.trans k.1, fun i hi => by
    have hi2 := Nat.lt_of_lt_of_le hi h.1.size
    rcases h.2 i hi with e | ⟨e1, e2⟩ <;> rcases k.2 i hi2 with f | ⟨f1, f2⟩
    · exact .inl (f.trans e)
    · exact .inr ⟨e.symm.trans f1, f2⟩
    · exact .inr ⟨e1, f.trans e2⟩
    · exact .inr ⟨e1, f2⟩⟩
  draw w := ⟨⟨rfl, rfl, rfl, Nat.le_refl _, fun _ _ => rfl⟩, fun _ _ => .inl rfl⟩
theorem Tn.of_ext {B : Nat} {z t : Obj} {w w' : World} (h : Ext w w') (hB : B ≤ w.heap.size) : Tn B z t w w' := ⟨h.mono hB, fun k hk => .inl (h.block k hk)⟩
/-- The block has the one content or the other; it has the other. -/
def Bz (z t : Obj) (w : World) (b : Nat) : Prop := w.heap[b]? = some z ∨ w.heap[b]? = some t
def Bt (t : Obj) (w : World) (b : Nat) : Prop := w.heap[b]? = some t
theorem blk_lt {w : World} {b : Nat} {o : Obj} (h : w.heap[b]? = some o) : b < w.heap.size := (Array.getElem?_eq_some_iff.1 h).1
theorem Bz.lt {z t : Obj} {w : World} {b : Nat} (h : Bz z t w b) : b < w.heap.size := h.elim blk_lt blk_lt
theorem Bt.tn {B : Nat} {z t : Obj} {w w' : World} {b : Nat} (h : Bt t w b) (hx : Tn B z t w w') : Bt t w' b := by
  rcases hx.2 b (blk_lt h) with e | ⟨_, e⟩
  · exact e.trans h
  · exact e
theorem Bz.tn {B : Nat} {z t : Obj} {w w' : World} {b : Nat} (h : Bz z t w b) (hx : Tn B z t w w') : Bz z t w' b := by
  rcases hx.2 b h.lt with e | ⟨_, e⟩
  · exact h.elim (fun h => .inl (e.trans h)) (fun h => .inr (e.trans h))
  · exact .inr e
def RMade (B : Nat) (z t : Obj) : Value → Value → World → Prop := fun _ v w => ∃ b, v = .pointer (some ⟨b, 0, none⟩) ∧ B ≤ b ∧ Bz z t w b
def RSet (B : Nat) (t : Obj) : Value → Value → World → Prop := fun u _ w => ∃ b, u = .pointer (some ⟨b, 0, none⟩) ∧ B ≤ b ∧ Bt t w b
/-- Operation ja makes the block, operation js stores into it through slot s. -/
def RsT1 (ja js s B : Nat) (z t : Obj) : H.RsT := fun j => if j = ja then some (none, RMade B z t) else if j = js then some (some (.tmp s), RSet B t) else none
theorem RsT1_mono (ja js s B : Nat) (z t : Obj) : H.RsMono (Tn B z t) (RsT1 ja js s B z t) := by
  intro j x R h u v w w' hx hR
  unfold RsT1 at h
  split at h
  · cases h
    obtain ⟨b, hv, hb, hB⟩ := hR
    exact ⟨b, hv, hb, hB.tn hx⟩
  · split at h
    · cases h
      obtain ⟨b, hv, hb, hB⟩ := hR
      exact ⟨b, hv, hb, hB.tn hx⟩
    · cases h
theorem Tn.store4 {B b : Nat} {w : World} {z0 z1 z2 z3 y0 y1 y2 y3 : Value} {ty : TypeId} (hb : B ≤ b) (h : Bz (.cells #[z0, z1, z2, z3] ty) (.cells #[y0, y1, y2, y3] ty) w b) :
    Tn B (.cells #[z0, z1, z2, z3] ty) (.cells #[y0, y1, y2, y3] ty) w ((((w.setCell ⟨b, 0, none⟩ y0).setCell ⟨b, 1, none⟩ y1).setCell ⟨b, 2, none⟩ y2).setCell ⟨b, 3, none⟩ y3)
      ∧ Bt (.cells #[y0, y1, y2, y3] ty) ((((w.setCell ⟨b, 0, none⟩ y0).setCell ⟨b, 1, none⟩ y1).setCell ⟨b, 2, none⟩ y2).setCell ⟨b, 3, none⟩ y3) b := by
  have hg := grown_set4 w b y0 y1 y2 y3
  have hs : Blk ((((w.setCell ⟨b, 0, none⟩ y0).setCell ⟨b, 1, none⟩ y1).setCell ⟨b, 2, none⟩ y2).setCell ⟨b, 3, none⟩ y3) b #[y0, y1, y2, y3] ty := by
    rcases h with h | h
    · exact Blk.store4 (show Blk w b #[z0, z1, z2, z3] ty from h) y0 y1 y2 y3
    · exact Blk.store4 (show Blk w b #[y0, y1, y2, y3] ty from h) y0 y1 y2 y3
  refine ⟨⟨⟨hg.os, hg.tape, hg.output, hg.size, fun k hk => hg.block k (by have := h.lt; omega) (by simp; omega)⟩, fun k hk => ?_⟩, hs⟩
  by_cases e : k = b
  · subst e
    rcases h with h | h
    · exact .inr ⟨h, hs⟩
    · exact .inl (Eq.trans hs h.symm)
  · exact .inl (hg.block k hk (by simpa using e))
theorem Bz.cells4 {w : World} {b : Nat} {z0 z1 z2 z3 y0 y1 y2 y3 : Value} {ty : TypeId} (h : Bz (.cells #[z0, z1, z2, z3] ty) (.cells #[y0, y1, y2, y3] ty) w b) :
    ∃ x0 x1 x2 x3, Blk w b #[x0, x1, x2, x3] ty ∧ w.cell? ⟨b, 0, none⟩ = some x0 ∧ w.cell? ⟨b, 1, none⟩ = some x1 ∧ w.cell? ⟨b, 2, none⟩ = some x2 ∧ w.cell? ⟨b, 3, none⟩ = some x3 := by
  rcases h with h | h
  · have hb : Blk w b #[z0, z1, z2, z3] ty := h
    exact ⟨z0, z1, z2, z3, hb, hb.cells4⟩
  · have hb : Blk w b #[y0, y1, y2, y3] ty := h
    exact ⟨y0, y1, y2, y3, hb, hb.cells4⟩
end Go.Proofs.YtecjodcaeldidaaGreatDoor
namespace Go.Proofs.YtecjodcaeldidaaGreatDoor
open Go Go.RowKit
theorem itm_sum (l : List UInt8) : itm unq l = if Lib.hasPrefix l [91, 58] = true then nmq l else spq unq l := rfl
theorem ofl_one (b : Nat) (hb : b < 256) : 0#256 ||| 1#256 <<< b = ofl [UInt8.ofNat b] := by
  have : (UInt8.ofNat b).toNat = b := by simp [Nat.mod_eq_of_lt hb]
  simp only [ofl, List.foldl_cons, List.foldl_nil, this]
theorem rhasp_at (s p : ByteArray) (i : Nat) (z : Int) (hz : z = i) (hi : i ≤ s.size) (hs : s.size ≤ 4294967000) (hp : p.size ≤ 100) (q : Bool) (hq : Lib.hasPrefix (rest s i) p.data.toList = q) (w : World) :
    Calls Tryz.prog 44 #[.string s, .int .i64 z, .string p] w fun e w' => e = .returned (.bool q) ∧ Ext w w' := by subst hz; exact rhasp_any s p i hi hs hp q hq w
/-- What 'item' answers. -/
def RiEnd (w w' : World) (r : Nat) (s : ByteArray) (i o : Nat) (e : Ending) : Sum Nat (BitVec 256 × Nat) → Prop
  | .inl d => ∃ (T : BitVec 256) (j : Nat), j ≤ s.size ∧ e = .returned (sv T) ∧ w.grownBy w' (some r) ∧ RR w' r s j o 3 ((i + d : Nat) : Int)
  | .inr (T, m) => e = .returned (sv T) ∧ w.grownBy w' (some r) ∧ RR w' r s (i + m) o 0 0
theorem RR.own {w : World} {r : Nat} {s : ByteArray} {i o : Nat} {c q : Int} (h : RR w r s i o c q) {b : Nat} (hb : b ≠ r) (y0 y1 y2 y3 : Value) : RR ((((w.setCell ⟨b, 0, none⟩ y0).setCell ⟨b, 1, none⟩ y1).setCell ⟨b, 2, none⟩ y2).setCell ⟨b, 3, none⟩ y3) r s i o c q :=
  ⟨h.blk.other4 hb y0 y1 y2 y3, h.sz⟩
set_option maxHeartbeats 4000000 in
set_option maxRecDepth 20000 in
theorem ritem_named (r : Nat) (s : ByteArray) (i o : Nat) (w : World) (h : RR w r s i o 0 0) (hi : i ≤ s.size) (hq : Lib.hasPrefix (rest s i) [91, 58] = true) (x : Sum Nat (BitVec 256 × Nat)) (hx : nmq (rest s i) = x) :
    Calls Tryz.prog 47 #[.pointer (some ⟨r, 0, none⟩)] w fun e w' => RiEnd w w' r s i o e x := by
  have hsz := h.sz
  have hrw := h.blk.lt
  have hl2 := pre_two_len hq
  have hrl := rest_len hi
  have HH := Lib.hid (h.ext (show Ext w (w.alloc (.cells zer 27)) from by go_grown))
  have HX := Lib.hid hx
  have HB := Lib.hid (Blk.new w zer 27)
  have HE := Lib.hid (show Ext w (w.alloc (.cells zer 27)) from by go_grown)
  have HQ := Lib.hid (fun w => rhasp_at s ⟨#[91, 58]⟩ i (i : Int) rfl hi hsz (by decide) true hq w)
  clear h hx hq
  go_enter Tryz.func47, Tryz.ntmps47
  go_wp2_with fail
  generalize w.alloc (.cells zer 27) = w1 at HH HB HE ⊢
  refine G.wp_region_stab (G := Ext) (fun _ => none) (by kernel_rfl) (by kernel_rfl) (fun _ _ h => by cases h) (fun hex => ?_)
  iterate 9
    (refine G.wpS_one (A := ?_) hex rfl rfl (by simp) ?_ ?_ ?_
     rotate_left 2
     · intro w' hC K hK
       have d0 := (HH.out.blk.ext hC.1).cell 0; have d1 := (HH.out.blk.ext hC.1).cell 1
       go_wp2_with (refine (HQ.out _).mono ?_; rintro e wq ⟨rfl, hEq⟩)
       refine hK _ ?_
       first | exact Below.refl _ _ | assumption | ((repeat' (first | (with_reducible exact Below.refl _ _) | (with_reducible assumption) | (with_reducible refine below_drewN ?_ _) | (with_reducible refine Below.alloc ?_ ?_ _) | (with_reducible refine Below.drew ?_) | (with_reducible refine Below.setCell ?_ ?_ _) | (with_reducible refine Below.trans ?_ (Below.mono (by with_reducible assumption) ?_)) | go_size)))
     rotate_left 1
     · rfl
     clear hex; intro hex)
  refine G.wpS_nil fun w2 hAll => ?_
  have hE := hAll.1
  have H2 := Lib.hid (HH.out.ext hE)
  have B2 := Lib.hid (HB.out.ext hE)
  have E2 := Lib.hid (bel_call HE.out hE)
  clear hE hex hAll HH HB HE HQ
  go_wp2_with fail
  go_loopw [3] (fun z wr => ∃ k : Nat, 1 ≤ k ∧ k ≤ 8 ∧ z = .int .i64 k ∧ Hid (∀ n, 1 ≤ n → n < k → Lib.hasPrefix (((rest s i).drop 2).drop n) [58, 93] = true → nmd (((rest s i).drop 2).take n) = none) ∧ Hid (Ext w wr) ∧ Hid (RR wr r s i o 0 0) ∧ Hid (Blk wr w.heap.size zer 27)) (fun z _ => 8 - (intOf z).toNat)
  case atStart => exact ⟨1, by omega, by omega, rfl, Lib.hid (fun n h1 h2 => by omega), E2, H2, B2⟩
  case round =>
    clear E2 H2 B2
    obtain ⟨k, hk1, hk8, rfl, hN, hEr, hR, hB⟩ := hrel
    by_cases hk : k < 8
    · have d1 : decide ((k : Int) < 8) = true := by simp; omega
      by_cases hle : i + 2 + k ≤ s.size
      · have d2 : decide ((i : Int) + 2 + (k : Int) ≤ (s.size : Int)) = true := by simp; omega
        have hdd : rest s (i + 2 + k) = ((rest s i).drop 2).drop k := by rw [rest_drop, rest_drop]
        cases hq : Lib.hasPrefix (rest s (i + 2 + k)) [58, 93] with
        | false =>
          have HQ := Lib.hid (fun w => rhasp_at s ⟨#[58, 93]⟩ (i + 2 + k) ((i : Int) + 2 + (k : Int)) (by omega) hle hsz (by decide) false hq w)
          have HN2 := Lib.hid (show ∀ n, 1 ≤ n → n < k + 1 → Lib.hasPrefix (((rest s i).drop 2).drop n) [58, 93] = true → nmd (((rest s i).drop 2).take n) = none from fun n h1 h2 h3 => by
            by_cases e : n = k
            · subst e; rw [← hdd, hq] at h3; cases h3
            · exact hN.out n h1 (by omega) h3)
          clear hq hdd hN
          go_wp2_with fail
          refine G.wp_region_stab (G := Ext) (fun _ => none) (by kernel_rfl) (by kernel_rfl) (fun _ _ h => by cases h) (fun hex => ?_)
          iterate 27
            (refine G.wpS_one (A := ?_) hex rfl rfl (by simp) ?_ ?_ ?_
             rotate_left 2
             · intro w' hC K hK
               have d0 := (hR.out.blk.ext hC.1).cell 0; have d1 := (hR.out.blk.ext hC.1).cell 1
               go_wp2_with (refine (HQ.out _).mono ?_; rintro e wq ⟨rfl, hEq⟩)
               refine hK _ ?_
               first | exact Below.refl _ _ | assumption | ((repeat' (first | (with_reducible exact Below.refl _ _) | (with_reducible assumption) | (with_reducible refine below_drewN ?_ _) | (with_reducible refine Below.alloc ?_ ?_ _) | (with_reducible refine Below.drew ?_) | (with_reducible refine Below.setCell ?_ ?_ _) | (with_reducible refine Below.trans ?_ (Below.mono (by with_reducible assumption) ?_)) | go_size)))
             rotate_left 1
             · rfl
             clear hex; intro hex)
          refine G.wpS_nil fun w3 hAll => ?_
          have hE := hAll.1
          have E3 := Lib.hid (bel_call hEr.out hAll.1)
          have R3 := Lib.hid (hR.out.ext hAll.1)
          have B3 := Lib.hid (hB.out.ext hAll.1)
          clear hE hEr hex hAll hR hB HQ
          go_wp2_with fail
          go_roundw
          case rel => first | exact ⟨k + 1, by omega, by omega, by go_num, HN2, E3, R3, B3⟩ | ((repeat apply Exists.intro); exact ⟨⟨k + 1, by omega, by omega, by go_num, HN2, E3, R3, B3⟩, rfl⟩)
          case measure => simp [intOf]; omega
        | true =>
          have HQ := Lib.hid (fun w => rhasp_at s ⟨#[58, 93]⟩ (i + 2 + k) ((i : Int) + 2 + (k : Int)) (by omega) hle hsz (by decide) true hq w)
          obtain ⟨u, hu⟩ : ∃ u, nmd (((rest s i).drop 2).take k) = u := ⟨_, rfl⟩
          have hnm := fun w => rnamed_any (s.extract (i + 2) (i + 2 + k)) w u (by rw [ext_list, rest_drop, hu])
          have hmiss : u = none → ∀ n, 1 ≤ n → n < k + 1 → Lib.hasPrefix (((rest s i).drop 2).drop n) [58, 93] = true → nmd (((rest s i).drop 2).take n) = none := fun hun n h1 h2 h3 => by
            by_cases e : n = k
            · subst e; rw [hu, hun]
            · exact hN.out n h1 (by omega) h3
          have hhit : ∀ S, u = some S → x = .inr (S, k + 4) := fun S hS => by
            rw [← HX.out]; exact nmq_hit _ k S (by rw [← hdd]; exact hq) (by rw [hu, hS])
          have HM := Lib.hid (And.intro hmiss hhit)
          obtain ⟨T, hT⟩ : ∃ T, u.getD 0#256 = T := ⟨_, rfl⟩
          obtain ⟨bb, hbb⟩ : ∃ bb, u.isSome = bb := ⟨_, rfl⟩
          rw [hT, hbb] at hnm
          have HNM := Lib.hid hnm
          have HT := Lib.hid (And.intro hT hbb)
          have hsl1 : (i : Int) + 2 ≤ (i : Int) + 2 + (k : Int) := by omega
          have hsl2 : (i : Int) + 2 + (k : Int) ≤ (s.size : Int) := by omega
          have hsl0 : (0 : Int) ≤ (i : Int) + 2 := by omega
          have hslt1 : ((i : Int) + 2).toNat = i + 2 := by omega
          have hslt2 : ((i : Int) + 2 + (k : Int)).toNat = i + 2 + k := by omega
          clear hq hdd hN hnm hmiss hhit hu hT hbb
          go_wp2_with fail
          refine G.wp_region_stab (G := Ext) (fun _ => none) (by kernel_rfl) (by kernel_rfl) (fun _ _ h => by cases h) (fun hex => ?_)
          iterate 27
            (refine G.wpS_one (A := ?_) hex rfl rfl (by simp) ?_ ?_ ?_
             rotate_left 2
             · intro w' hC K hK
               have d0 := (hR.out.blk.ext hC.1).cell 0; have d1 := (hR.out.blk.ext hC.1).cell 1
               go_wp2_with (refine (HQ.out _).mono ?_; rintro e wq ⟨rfl, hEq⟩)
               refine hK _ ?_
               first | exact Below.refl _ _ | assumption | ((repeat' (first | (with_reducible exact Below.refl _ _) | (with_reducible assumption) | (with_reducible refine below_drewN ?_ _) | (with_reducible refine Below.alloc ?_ ?_ _) | (with_reducible refine Below.drew ?_) | (with_reducible refine Below.setCell ?_ ?_ _) | (with_reducible refine Below.trans ?_ (Below.mono (by with_reducible assumption) ?_)) | go_size)))
             rotate_left 1
             · rfl
             clear hex; intro hex)
          refine G.wpS_nil fun w3 hAll => ?_
          have hE := hAll.1
          have E3 := Lib.hid (bel_call hEr.out hAll.1)
          have R3 := Lib.hid (hR.out.ext hAll.1)
          have B3 := Lib.hid (hB.out.ext hAll.1)
          clear hE hEr hex hAll hR hB HQ
          go_wp2_with fail
          refine H.wp_region_stab (G := Tn w3.heap.size (.cells zer 27) (.cells (svs T) 27)) (RsT1 21 22 4 w3.heap.size (.cells zer 27) (.cells (svs T) 27)) (by kernel_rfl) (by kernel_rfl) (RsT1_mono _ _ _ _ _ _) (fun hex => ?_)
          iterate 21
            (refine H.wpS_one (A := ?_) hex rfl rfl (by simp) ?_ ?_ ?_
             rotate_left 2
             · intro w' hC K hK
               have d0 := (R3.out.blk.ext hC.1.1).cell 0; have d1 := (R3.out.blk.ext hC.1.1).cell 1
               go_wp2_with (refine (HNM.out _).mono ?_; rintro e wq ⟨rfl, hEq⟩)
               refine hK _ ?_
               first | exact G.GOK.refl _ | exact Tn.of_ext (by assumption) hC.1.1.size | (refine Tn.of_ext ?_ hC.1.1.size; (repeat' (first | (with_reducible exact Below.refl _ _) | (with_reducible assumption) | (with_reducible refine below_drewN ?_ _) | (with_reducible refine Below.alloc ?_ ?_ _) | (with_reducible refine Below.drew ?_) | (with_reducible refine Below.setCell ?_ ?_ _) | (with_reducible refine Below.trans ?_ (Below.mono (by with_reducible assumption) ?_)) | go_size)))
             rotate_left 1
             · rfl
             clear hex; intro hex)
          refine H.wpS_rel none (RMade (w3.heap.size) (.cells zer 27) (.cells (svs T) 27)) rfl (fun _ h => by cases h) rfl (by simp) (by first | rfl | (simp [Region.wanted, yielded]; done)) ?_ ?_
          · intro w' hC K hK
            simp only [Act.put, List.setIfInBounds_toArray, List.set_cons_succ, List.set_cons_zero] at hK
            go_wp2_with fail
            refine hK _ _ ?_ ⟨_, rfl, hC.1.1.size, .inl (Blk.new _ _ _)⟩
            first | exact G.GOK.refl _ | exact Tn.of_ext (by assumption) hC.1.1.size | (refine Tn.of_ext ?_ hC.1.1.size; (repeat' (first | (with_reducible exact Below.refl _ _) | (with_reducible assumption) | (with_reducible refine below_drewN ?_ _) | (with_reducible refine Below.alloc ?_ ?_ _) | (with_reducible refine Below.drew ?_) | (with_reducible refine Below.setCell ?_ ?_ _) | (with_reducible refine Below.trans ?_ (Below.mono (by with_reducible assumption) ?_)) | go_size)))
          clear hex
          intro v w' hex hv
          obtain ⟨bq, rfl, hbq, hBz⟩ := hv
          clear hBz
          replace hex := Exists.intro w' hex
          simp only [Act.put, List.setIfInBounds_toArray, List.set_cons_succ, List.set_cons_zero]
          refine H.wpS_said (some (.tmp 4)) (RSet (w3.heap.size) (.cells (svs T) 27)) rfl (by intro y h; cases h; simp [Op.operands]) rfl (by first | rfl | (simp [Region.wanted, yielded]; done)) (fun _ _ _ _ h => h) ?_ ?_
          · intro w' hC K hK
            obtain ⟨b', e', hb', hBz⟩ := (hC.2 21 (by simp [Region.binds])).1 rfl
            cases e'
            obtain ⟨x0, x1, x2, x3, hbk, z0, z1, z2, z3⟩ := hBz.cells4
            have f0 := hbk.free 0
            have f1 := hbk.free 1
            have f2 := hbk.free 2
            have f3 := hbk.free 3
            have hlt := hbk.lt
            have HST := Lib.hid (And.intro hb' hBz)
            clear hbk hBz
            go_wp2_with fail
            exact hK _ (Tn.store4 HST.out.1 HST.out.2).1 ⟨bq, rfl, HST.out.1, (Tn.store4 HST.out.1 HST.out.2).2⟩
          clear hex
          intro hex
          refine H.wpS_one (A := ?_) hex rfl rfl (by simp) ?_ ?_ ?_
          rotate_left 2
          · intro w' hC K hK
            go_wp2_with (fail)
            refine hK _ ?_
            first | exact G.GOK.refl _ | exact Tn.of_ext (by assumption) hC.1.1.size | (refine Tn.of_ext ?_ hC.1.1.size; (repeat' (first | (with_reducible exact Below.refl _ _) | (with_reducible assumption) | (with_reducible refine below_drewN ?_ _) | (with_reducible refine Below.alloc ?_ ?_ _) | (with_reducible refine Below.drew ?_) | (with_reducible refine Below.setCell ?_ ?_ _) | (with_reducible refine Below.trans ?_ (Below.mono (by with_reducible assumption) ?_)) | go_size)))
          rotate_left 1
          · rfl
          clear hex; intro hex
          refine H.wpS_nil fun w4 hAll => ?_
          obtain ⟨bq', eq', _, hBt⟩ := (hAll.2 22).1 rfl
          cases eq'
          have R4 := Lib.hid (R3.out.ext hAll.1.1)
          have E4 := Lib.hid (bel_call E3.out hAll.1.1)
          have B4 := Lib.hid (B3.out.ext hAll.1.1)
          have BQ := Lib.hid (show Blk w4 bq (svs T) 27 from hBt)
          have hbw : w.heap.size < w3.heap.size := B3.out.lt
          clear hAll hBt hex HNM E3 B3 hsl1 hsl2 hsl0 hslt1 hslt2 d2
          cases bb with
          | false =>
            have hun : u = none := by cases u with
              | none => rfl
              | some S => have := HT.out.2; cases this
            have HN2 := Lib.hid (HM.out.1 hun)
            clear R3 HM HT hun
            go_wp2_with fail
            go_roundw
            case rel => first | exact ⟨k + 1, by omega, by omega, by go_num, HN2, E4, R4, B4⟩ | ((repeat apply Exists.intro); exact ⟨⟨k + 1, by omega, by omega, by go_num, HN2, E4, R4, B4⟩, rfl⟩)
            case measure => simp [intOf]; omega
          | true =>
            have hxx : x = .inr (T, k + 4) := by
              cases u with
              | none => have := HT.out.2; cases this
              | some S =>
                have h1 := HT.out.1
                have h2 : S = T := h1
                rw [← h2]; exact HM.out.2 S rfl
            have HXX := Lib.hid hxx
            have k1 := R4.out.blk.cell 1
            have f1 := R4.out.blk.free 1
            have hltr := R4.out.blk.lt
            have R5 := Lib.hid (R4.out.at (i + (k + 4)) ((i : Int) + (k : Int) + 4) (by omega))
            have B5 := Lib.hid (B4.out.set_other (a := ⟨r, 1, none⟩) (by simp; omega) (.int .i64 ((i : Int) + (k : Int) + 4)))
            have BQ5 := Lib.hid (BQ.out.set_other (a := ⟨r, 1, none⟩) (by simp; omega) (.int .i64 ((i : Int) + (k : Int) + 4)))
            have G5 := Lib.hid (grown_trans (grown_of_ext (row := some r) E4.out) (grown_set w4 r 1 (.int .i64 ((i : Int) + (k : Int) + 4))))
            clear R3 HM HT hxx E4 BQ
            obtain ⟨q0, q1, q2, q3⟩ := BQ5.out.cells4
            have kb := B5.out
            obtain ⟨z0, z1, z2, z3⟩ := kb.cells4
            have f0 := kb.free 0
            have f1 := kb.free 1
            have f2 := kb.free 2
            have f3 := kb.free 3
            have hltb := kb.lt
            obtain ⟨y0, y1, y2, y3⟩ := (kb.store4 (.int .u64 (wd (T) 0)) (.int .u64 (wd (T) 1)) (.int .u64 (wd (T) 2)) (.int .u64 (wd (T) 3))).cells4
            clear kb
            go_wp2_with fail
            refine bodyPost_ret (v := sv (T)) ?_ rfl ?_
            · simp [results, Tryz.results47, go_sem, y0, y1, y2, y3]
            · rw [HXX.out]
              exact ⟨rfl, grown_store (grown_store (grown_store (grown_store G5.out _ _ _ (Nat.le_refl _)) _ _ _ (Nat.le_refl _)) _ _ _ (Nat.le_refl _)) _ _ _ (Nat.le_refl _), R5.out.own (by omega) _ _ _ _⟩
      · have d2 : decide ((i : Int) + 2 + (k : Int) ≤ (s.size : Int)) = false := by simp; omega
        have HN2 := Lib.hid (show ∀ n, 1 ≤ n → n < k + 1 → Lib.hasPrefix (((rest s i).drop 2).drop n) [58, 93] = true → nmd (((rest s i).drop 2).take n) = none from fun n h1 h2 h3 => by
          by_cases e : n = k
          · subst e
            have := pre_two_len h3
            rw [List.length_drop, List.length_drop] at this
            omega
          · exact hN.out n h1 (by omega) h3)
        clear hN
        go_wp2_with fail
        refine G.wp_region_stab (G := Ext) (fun _ => none) (by kernel_rfl) (by kernel_rfl) (fun _ _ h => by cases h) (fun hex => ?_)
        iterate 27
          (refine G.wpS_one (A := ?_) hex rfl rfl (by simp) ?_ ?_ ?_
           rotate_left 2
           · intro w' hC K hK
             have d0 := (hR.out.blk.ext hC.1).cell 0; have d1 := (hR.out.blk.ext hC.1).cell 1
             go_wp2_with (fail)
             refine hK _ ?_
             first | exact Below.refl _ _ | assumption | ((repeat' (first | (with_reducible exact Below.refl _ _) | (with_reducible assumption) | (with_reducible refine below_drewN ?_ _) | (with_reducible refine Below.alloc ?_ ?_ _) | (with_reducible refine Below.drew ?_) | (with_reducible refine Below.setCell ?_ ?_ _) | (with_reducible refine Below.trans ?_ (Below.mono (by with_reducible assumption) ?_)) | go_size)))
           rotate_left 1
           · rfl
           clear hex; intro hex)
        refine G.wpS_nil fun w3 hAll => ?_
        have hE := hAll.1
        have E3 := Lib.hid (bel_call hEr.out hAll.1)
        have R3 := Lib.hid (hR.out.ext hAll.1)
        have B3 := Lib.hid (hB.out.ext hAll.1)
        clear hE hEr hex hAll hR hB
        go_wp2_with fail
        go_roundw
        case rel => first | exact ⟨k + 1, by omega, by omega, by go_num, HN2, E3, R3, B3⟩ | ((repeat apply Exists.intro); exact ⟨⟨k + 1, by omega, by omega, by go_num, HN2, E3, R3, B3⟩, rfl⟩)
        case measure => simp [intOf]; omega
    · obtain rfl : k = 8 := by omega
      have hxx : x = .inl 0 := by rw [← HX.out]; exact nmq_miss _ (fun n h1 h2 h3 => hN.out n h1 h2 h3)
      have HXX := Lib.hid hxx
      have k1 := hR.out.blk.cell 1
      have GE := Lib.hid (grown_of_ext (row := some r) hEr.out)
      clear hxx hN hEr
      go_wp2_with fail
      refine (rrefuse_any r s _ o 3 (i : Int) _ hR.out).mono ?_
      rintro e w9 ⟨rfl, hG9, hR9⟩
      have HG9 := Lib.hid (grown_trans GE.out hG9)
      have HR9 := Lib.hid hR9
      have HB9 := Lib.hid (hB.out.grown hG9 (by simp; omega))
      clear hG9 hR9 k1
      have kb := HB9.out
      obtain ⟨z0, z1, z2, z3⟩ := kb.cells4
      have f0 := kb.free 0
      have f1 := kb.free 1
      have f2 := kb.free 2
      have f3 := kb.free 3
      have hltb := kb.lt
      obtain ⟨y0, y1, y2, y3⟩ := (kb.store4 (.int .u64 (0)) (.int .u64 (0)) (.int .u64 (0)) (.int .u64 (0))).cells4
      clear kb
      go_wp2_with fail
      refine bodyPost_ret (v := sv0) ?_ rfl ?_
      · simp [results, Tryz.results47, go_sem, y0, y1, y2, y3]
      · rw [HXX.out]
        refine ⟨0#256, i, hi, by rw [sv_zero], grown_store (grown_store (grown_store (grown_store HG9.out _ _ _ (Nat.le_refl _)) _ _ _ (Nat.le_refl _)) _ _ _ (Nat.le_refl _)) _ _ _ (Nat.le_refl _), HR9.out.own (by omega) _ _ _ _⟩
end Go.Proofs.YtecjodcaeldidaaGreatDoor
namespace Go.Proofs.YtecjodcaeldidaaGreatDoor
open Go Go.RowKit
set_option maxHeartbeats 4000000 in
set_option maxRecDepth 20000 in
theorem ritem_span (r : Nat) (s : ByteArray) (i o : Nat) (w : World) (h : RR w r s i o 0 0) (hi : i ≤ s.size) (hq : Lib.hasPrefix (rest s i) [91, 58] = false) (x : Sum Nat (BitVec 256 × Nat)) (hx : spq unq (rest s i) = x) :
    Calls Tryz.prog 47 #[.pointer (some ⟨r, 0, none⟩)] w fun e w' => RiEnd w w' r s i o e x := by
  have hsz := h.sz
  have hrw := h.blk.lt
  have hrl := rest_len hi
  have HH := Lib.hid (h.ext (show Ext w (w.alloc (.cells zer 27)) from by go_grown))
  have HB := Lib.hid (Blk.new w zer 27)
  have HE := Lib.hid (show Ext w (w.alloc (.cells zer 27)) from by go_grown)
  have HQ := Lib.hid (fun w => rhasp_at s ⟨#[91, 58]⟩ i (i : Int) rfl hi hsz (by decide) false hq w)
  obtain ⟨x1, hx1⟩ : ∃ x1, chr unq marks.data.toList (rest s i) = x1 := ⟨_, rfl⟩
  have HCH := Lib.hid (fun w h => rchar_any r s i o w h hi x1 hx1)
  unfold spq at hx
  rw [hx1] at hx
  have hbd : ∀ b n, x1 = some (b, n) → b < 256 ∧ 0 < n ∧ i + n ≤ s.size := fun b n e => by
    rw [e] at hx1
    have := chr_lt unq_len unq_byte hx1
    omega
  have HX := Lib.hid hx
  clear h hx hq hx1
  go_enter Tryz.func47, Tryz.ntmps47
  go_wp2_with fail
  generalize w.alloc (.cells zer 27) = w1 at HH HB HE ⊢
  refine G.wp_region_stab (G := Ext) (fun _ => none) (by kernel_rfl) (by kernel_rfl) (fun _ _ h => by cases h) (fun hex => ?_)
  iterate 9
    (refine G.wpS_one (A := ?_) hex rfl rfl (by simp) ?_ ?_ ?_
     rotate_left 2
     · intro w' hC K hK
       have d0 := (HH.out.blk.ext hC.1).cell 0; have d1 := (HH.out.blk.ext hC.1).cell 1
       go_wp2_with (refine (HQ.out _).mono ?_; rintro e wq ⟨rfl, hEq⟩)
       refine hK _ ?_
       first | exact Below.refl _ _ | assumption | ((repeat' (first | (with_reducible exact Below.refl _ _) | (with_reducible assumption) | (with_reducible refine below_drewN ?_ _) | (with_reducible refine Below.alloc ?_ ?_ _) | (with_reducible refine Below.drew ?_) | (with_reducible refine Below.setCell ?_ ?_ _) | (with_reducible refine Below.trans ?_ (Below.mono (by with_reducible assumption) ?_)) | go_size)))
     rotate_left 1
     · rfl
     clear hex; intro hex)
  refine G.wpS_nil fun w2 hAll => ?_
  have hE := hAll.1
  have H2 := Lib.hid (HH.out.ext hE)
  have B2 := Lib.hid (HB.out.ext hE)
  have E2 := Lib.hid (grown_of_ext (row := some r) (bel_call HE.out hE))
  clear hE hex hAll HH HB HE HQ
  go_wp2_with fail
  refine (HCH.out _ H2.out).mono ?_
  rintro e w3 hce
  cases x1 with
  | none =>
    obtain ⟨b, hb, rfl, hG3, hR3⟩ := hce
    have HXX := Lib.hid (show Sum.inl 0 = x from HX.out)
    have G3 := Lib.hid (grown_trans E2.out hG3)
    have R3 := Lib.hid hR3
    have B3 := Lib.hid (B2.out.grown hG3 (by simp; omega))
    clear hG3 hR3 E2 H2 B2 hbd HX HCH
    have hok := rok_any r s i o 3 (i : Int) w3 R3.out false (by decide)
    go_wp2_with fail
    refine hok.mono ?_
    rintro e w4 ⟨rfl, hE4⟩
    have G4 := Lib.hid (grown_ext G3.out hE4)
    have R4 := Lib.hid (R3.out.ext hE4)
    have B4 := Lib.hid (B3.out.ext hE4)
    clear hE4 hok G3 R3 B3
    have kb := B4.out
    obtain ⟨z0, z1, z2, z3⟩ := kb.cells4
    have f0 := kb.free 0
    have f1 := kb.free 1
    have f2 := kb.free 2
    have f3 := kb.free 3
    have hltb := kb.lt
    obtain ⟨y0, y1, y2, y3⟩ := (kb.store4 (.int .u64 (0)) (.int .u64 (0)) (.int .u64 (0)) (.int .u64 (0))).cells4
    clear kb
    go_wp2_with fail
    refine bodyPost_ret (v := sv0) ?_ rfl ?_
    · simp [results, Tryz.results47, go_sem, y0, y1, y2, y3]
    · rw [← HXX.out]
      exact ⟨0#256, i, hi, by rw [sv_zero], grown_store (grown_store (grown_store (grown_store G4.out _ _ _ (Nat.le_refl _)) _ _ _ (Nat.le_refl _)) _ _ _ (Nat.le_refl _)) _ _ _ (Nat.le_refl _), R4.out.own (by omega) _ _ _ _⟩
  | some bn =>
    obtain ⟨b, n⟩ := bn
    obtain ⟨rfl, hG3, hR3⟩ := hce
    obtain ⟨hb, hn0, hin⟩ := hbd b n rfl
    obtain ⟨j, hj⟩ : ∃ j, i + n = j := ⟨_, rfl⟩
    have hx2 := HX.out
    have hdn : (rest s i).drop n = rest s j := by rw [← hj]; exact (rest_drop s i n).symm
    have hdn1 : (rest s i).drop (n + 1) = rest s (j + 1) := by rw [← rest_drop, ← hj, Nat.add_assoc]
    dsimp only at hx2
    rw [hdn, hdn1] at hx2
    rw [hj] at hin hR3
    have G3 := Lib.hid (grown_trans E2.out hG3)
    have R3 := Lib.hid hR3
    have B3 := Lib.hid (B2.out.grown hG3 (by simp; omega))
    have HJ := Lib.hid hj
    clear hG3 hR3 E2 H2 B2 hbd HX HCH hdn hdn1 hj
    have hok := rok_any r s j o 0 0 w3 R3.out true (by decide)
    go_wp2_with fail
    refine hok.mono ?_
    rintro e w4 ⟨rfl, hE4⟩
    have G4 := Lib.hid (grown_ext G3.out hE4)
    have R4 := Lib.hid (R3.out.ext hE4)
    have B4 := Lib.hid (B3.out.ext hE4)
    clear hE4 hok G3 R3 B3
    cases hp1 : Lib.hasPrefix (rest s j) [45] with
    | false =>
      rw [hp1, if_pos (.inr rfl)] at hx2
      have HX := Lib.hid hx2
      have HQ := Lib.hid (fun w => rhasp_at s ⟨#[45]⟩ j (j : Int) rfl hin hsz (by decide) false hp1 w)
      clear hx2 hp1
      go_wp2_with fail
      refine G.wp_region_stab (G := Ext) (fun _ => none) (by kernel_rfl) (by kernel_rfl) (fun _ _ h => by cases h) (fun hex => ?_)
      iterate 21
        (refine G.wpS_one (A := ?_) hex rfl rfl (by simp) ?_ ?_ ?_
         rotate_left 2
         · intro w' hC K hK
           have d0 := (R4.out.blk.ext hC.1).cell 0; have d1 := (R4.out.blk.ext hC.1).cell 1
           go_wp2_with (refine (HQ.out _).mono ?_; rintro e wq ⟨rfl, hEq⟩)
           refine hK _ ?_
           first | exact Below.refl _ _ | assumption | ((repeat' (first | (with_reducible exact Below.refl _ _) | (with_reducible assumption) | (with_reducible refine below_drewN ?_ _) | (with_reducible refine Below.alloc ?_ ?_ _) | (with_reducible refine Below.drew ?_) | (with_reducible refine Below.setCell ?_ ?_ _) | (with_reducible refine Below.trans ?_ (Below.mono (by with_reducible assumption) ?_)) | go_size)))
         rotate_left 1
         · rfl
         clear hex; intro hex)
      refine G.wpS_nil fun w5 hAll => ?_
      have hE := hAll.1
      have R5 := Lib.hid (R4.out.ext hE)
      have B5 := Lib.hid (B4.out.ext hE)
      have G5 := Lib.hid (grown_ext G4.out hE)
      clear hE hex hAll R4 B4 G4 HQ
      obtain ⟨T, hT⟩ : ∃ T, ofl [UInt8.ofNat b] = T := ⟨_, rfl⟩
      rw [hT] at HX
      have HW := Lib.hid (fun w => rwith_eq 0#256 b T w hb (by rw [← hT]; exact ofl_one b hb))
      rw [sv_zero] at HW
      clear hT
      go_wp2_with fail
      refine (HW.out _).mono ?_
      rintro e w6 ⟨rfl, hE6⟩
      have G6 := Lib.hid (grown_ext G5.out hE6)
      have R6 := Lib.hid (R5.out.ext hE6)
      have B6 := Lib.hid (B5.out.ext hE6)
      clear hE6 G5 R5 B5
      have kb := B6.out
      obtain ⟨z0, z1, z2, z3⟩ := kb.cells4
      have f0 := kb.free 0
      have f1 := kb.free 1
      have f2 := kb.free 2
      have f3 := kb.free 3
      have hltb := kb.lt
      obtain ⟨y0, y1, y2, y3⟩ := (kb.store4 (.int .u64 (wd (T) 0)) (.int .u64 (wd (T) 1)) (.int .u64 (wd (T) 2)) (.int .u64 (wd (T) 3))).cells4
      clear kb
      go_wp2_with fail
      refine bodyPost_ret (v := sv (T)) ?_ rfl ?_
      · simp [results, Tryz.results47, go_sem, y0, y1, y2, y3]
      · rw [← HX.out]
        exact ⟨rfl, grown_store (grown_store (grown_store (grown_store G6.out _ _ _ (Nat.le_refl _)) _ _ _ (Nat.le_refl _)) _ _ _ (Nat.le_refl _)) _ _ _ (Nat.le_refl _), by rw [HJ.out]; exact R6.out.own (b := w.heap.size) (by omega) _ _ _ _⟩
    | true =>
      cases hp2 : Lib.hasPrefix (rest s j) [45, 45] with
      | true =>
        rw [hp2, if_pos (.inl rfl)] at hx2
        have HX := Lib.hid hx2
        have HQ := Lib.hid (fun w => rhasp_at s ⟨#[45]⟩ j (j : Int) rfl hin hsz (by decide) true hp1 w)
        have HQ2 := Lib.hid (fun w => rhasp_at s ⟨#[45, 45]⟩ j (j : Int) rfl hin hsz (by decide) true hp2 w)
        clear hx2 hp1 hp2
        go_wp2_with fail
        refine G.wp_region_stab (G := Ext) (fun _ => none) (by kernel_rfl) (by kernel_rfl) (fun _ _ h => by cases h) (fun hex => ?_)
        iterate 21
          (refine G.wpS_one (A := ?_) hex rfl rfl (by simp) ?_ ?_ ?_
           rotate_left 2
           · intro w' hC K hK
             have d0 := (R4.out.blk.ext hC.1).cell 0; have d1 := (R4.out.blk.ext hC.1).cell 1
             go_wp2_with (((first | with_reducible refine (HQ.out _).mono ?_ | with_reducible refine (HQ2.out _).mono ?_); rintro e wq ⟨rfl, hEq⟩))
             refine hK _ ?_
             first | exact Below.refl _ _ | assumption | ((repeat' (first | (with_reducible exact Below.refl _ _) | (with_reducible assumption) | (with_reducible refine below_drewN ?_ _) | (with_reducible refine Below.alloc ?_ ?_ _) | (with_reducible refine Below.drew ?_) | (with_reducible refine Below.setCell ?_ ?_ _) | (with_reducible refine Below.trans ?_ (Below.mono (by with_reducible assumption) ?_)) | go_size)))
           rotate_left 1
           · rfl
           clear hex; intro hex)
        refine G.wpS_nil fun w5 hAll => ?_
        have hE := hAll.1
        have R5 := Lib.hid (R4.out.ext hE)
        have B5 := Lib.hid (B4.out.ext hE)
        have G5 := Lib.hid (grown_ext G4.out hE)
        clear hE hex hAll R4 B4 G4 HQ HQ2
        obtain ⟨T, hT⟩ : ∃ T, ofl [UInt8.ofNat b] = T := ⟨_, rfl⟩
        rw [hT] at HX
        have HW := Lib.hid (fun w => rwith_eq 0#256 b T w hb (by rw [← hT]; exact ofl_one b hb))
        rw [sv_zero] at HW
        clear hT
        go_wp2_with fail
        refine (HW.out _).mono ?_
        rintro e w6 ⟨rfl, hE6⟩
        have G6 := Lib.hid (grown_ext G5.out hE6)
        have R6 := Lib.hid (R5.out.ext hE6)
        have B6 := Lib.hid (B5.out.ext hE6)
        clear hE6 G5 R5 B5
        have kb := B6.out
        obtain ⟨z0, z1, z2, z3⟩ := kb.cells4
        have f0 := kb.free 0
        have f1 := kb.free 1
        have f2 := kb.free 2
        have f3 := kb.free 3
        have hltb := kb.lt
        obtain ⟨y0, y1, y2, y3⟩ := (kb.store4 (.int .u64 (wd (T) 0)) (.int .u64 (wd (T) 1)) (.int .u64 (wd (T) 2)) (.int .u64 (wd (T) 3))).cells4
        clear kb
        go_wp2_with fail
        refine bodyPost_ret (v := sv (T)) ?_ rfl ?_
        · simp [results, Tryz.results47, go_sem, y0, y1, y2, y3]
        · rw [← HX.out]
          exact ⟨rfl, grown_store (grown_store (grown_store (grown_store G6.out _ _ _ (Nat.le_refl _)) _ _ _ (Nat.le_refl _)) _ _ _ (Nat.le_refl _)) _ _ _ (Nat.le_refl _), by rw [HJ.out]; exact R6.out.own (b := w.heap.size) (by omega) _ _ _ _⟩
      | false =>
        rw [hp1, hp2, if_neg (by simp)] at hx2
        have hle1 : j + 1 ≤ s.size := by
          have h1 := pre_len hp1
          have h2 := rest_len hin
          omega
        obtain ⟨j1, hj1⟩ : ∃ j1, j + 1 = j1 := ⟨_, rfl⟩
        rw [hj1] at hle1 hx2
        have HJ1 := Lib.hid hj1
        obtain ⟨x2, hx22⟩ : ∃ x2, chr unq marks.data.toList (rest s j1) = x2 := ⟨_, rfl⟩
        have HCH := Lib.hid (fun w h => rchar_any r s j1 o w h hle1 x2 hx22)
        rw [hx22] at hx2
        have hrl2 := rest_len hle1
        have hbd : ∀ c k, x2 = some (c, k) → c < 256 ∧ 0 < k ∧ j1 + k ≤ s.size := fun c k e => by
          rw [e] at hx22
          have := chr_lt unq_len unq_byte hx22
          omega
        have HBD := Lib.hid hbd
        have HX := Lib.hid hx2
        have HQ := Lib.hid (fun w => rhasp_at s ⟨#[45]⟩ j (j : Int) rfl hin hsz (by decide) true hp1 w)
        have HQ2 := Lib.hid (fun w => rhasp_at s ⟨#[45, 45]⟩ j (j : Int) rfl hin hsz (by decide) false hp2 w)
        have hjz : (j : Int) + 1 = j1 := by omega
        have HJZ := Lib.hid hjz
        clear hx2 hp1 hp2 hx22 hbd hj1 hjz
        go_wp2_with fail
        refine G.wp_region_stab (G := Ext) (fun _ => none) (by kernel_rfl) (by kernel_rfl) (fun _ _ h => by cases h) (fun hex => ?_)
        iterate 21
          (refine G.wpS_one (A := ?_) hex rfl rfl (by simp) ?_ ?_ ?_
           rotate_left 2
           · intro w' hC K hK
             have d0 := (R4.out.blk.ext hC.1).cell 0; have d1 := (R4.out.blk.ext hC.1).cell 1
             go_wp2_with (((first | with_reducible refine (HQ.out _).mono ?_ | with_reducible refine (HQ2.out _).mono ?_); rintro e wq ⟨rfl, hEq⟩))
             refine hK _ ?_
             first | exact Below.refl _ _ | assumption | ((repeat' (first | (with_reducible exact Below.refl _ _) | (with_reducible assumption) | (with_reducible refine below_drewN ?_ _) | (with_reducible refine Below.alloc ?_ ?_ _) | (with_reducible refine Below.drew ?_) | (with_reducible refine Below.setCell ?_ ?_ _) | (with_reducible refine Below.trans ?_ (Below.mono (by with_reducible assumption) ?_)) | go_size)))
           rotate_left 1
           · rfl
           clear hex; intro hex)
        refine G.wpS_nil fun w5 hAll => ?_
        have hE := hAll.1
        have h5 := R4.out.ext hE
        have k1 := h5.blk.cell 1
        have f1 := h5.blk.free 1
        have hltr := h5.blk.lt
        have R5 := Lib.hid (h5.at j1 ((j : Int) + 1) HJZ.out)
        have B5 := Lib.hid ((B4.out.ext hE).set_other (a := ⟨r, 1, none⟩) (by simp; omega) (.int .i64 ((j : Int) + 1)))
        have G5 := Lib.hid (grown_trans (grown_ext G4.out hE) (grown_set w5 r 1 (.int .i64 ((j : Int) + 1))))
        clear hE hex hAll R4 B4 G4 HQ HQ2 h5
        go_wp2_with fail
        clear k1 f1 hltr
        generalize w5.setCell ⟨r, 1, none⟩ (.int .i64 ((j : Int) + 1)) = w6 at R5 B5 G5 ⊢
        have k1 := R5.out.blk.cell 1
        go_wp2_with fail
        refine (HCH.out _ R5.out).mono ?_
        rintro e w7 hce
        clear k1
        cases x2 with
        | none =>
          obtain ⟨c, hc, rfl, hG7, hR7⟩ := hce
          have HXX := Lib.hid (show Sum.inl (n + 1) = x from HX.out)
          have G7 := Lib.hid (grown_trans G5.out hG7)
          have R7 := Lib.hid hR7
          have B7 := Lib.hid (B5.out.grown hG7 (by simp; omega))
          clear hG7 hR7 G5 R5 B5 HBD HX HCH
          have hok := rok_any r s j1 o 3 (j1 : Int) w7 R7.out false (by decide)
          obtain ⟨T, hT⟩ : ∃ T, rng (b : Int) (c : Int) = T := ⟨_, rfl⟩
          have HRG := Lib.hid (fun w => rrange_eq b c T w (by omega) (by omega) hT)
          clear hT
          go_wp2_with fail
          refine hok.mono ?_
          rintro e w8 ⟨rfl, hE8⟩
          have G8 := Lib.hid (grown_ext G7.out hE8)
          have R8 := Lib.hid (R7.out.ext hE8)
          have B8 := Lib.hid (B7.out.ext hE8)
          clear hE8 hok G7 R7 B7
          go_wp2_with fail
          refine (HRG.out _).mono ?_
          rintro e wz ⟨rfl, hEz⟩
          have GZ := Lib.hid (grown_ext G8.out hEz)
          have RZ := Lib.hid (R8.out.ext hEz)
          have BZ := Lib.hid (B8.out.ext hEz)
          clear hEz G8 R8 B8
          have kb := BZ.out
          obtain ⟨z0, z1, z2, z3⟩ := kb.cells4
          have f0 := kb.free 0
          have f1 := kb.free 1
          have f2 := kb.free 2
          have f3 := kb.free 3
          have hltb := kb.lt
          obtain ⟨y0, y1, y2, y3⟩ := (kb.store4 (.int .u64 (wd (T) 0)) (.int .u64 (wd (T) 1)) (.int .u64 (wd (T) 2)) (.int .u64 (wd (T) 3))).cells4
          clear kb
          go_wp2_with fail
          refine bodyPost_ret (v := sv (T)) ?_ rfl ?_
          · simp [results, Tryz.results47, go_sem, y0, y1, y2, y3]
          · rw [← HXX.out]
            exact ⟨T, j1, hle1, rfl, grown_store (grown_store (grown_store (grown_store GZ.out _ _ _ (Nat.le_refl _)) _ _ _ (Nat.le_refl _)) _ _ _ (Nat.le_refl _)) _ _ _ (Nat.le_refl _), by rw [show i + (n + 1) = j1 by have := HJ.out; have := HJ1.out; omega]; exact RZ.out.own (by omega) _ _ _ _⟩
        | some ck =>
          obtain ⟨c, k⟩ := ck
          obtain ⟨rfl, hG7, hR7⟩ := hce
          obtain ⟨hc, hk0, hck⟩ := HBD.out c k rfl
          have G7 := Lib.hid (grown_trans G5.out hG7)
          have R7 := Lib.hid hR7
          have B7 := Lib.hid (B5.out.grown hG7 (by simp; omega))
          have hok := rok_any r s (j1 + k) o 0 0 w7 hR7 true (by decide)
          obtain ⟨T, hT⟩ : ∃ T, rng (b : Int) (c : Int) = T := ⟨_, rfl⟩
          have HRG := Lib.hid (fun w => rrange_eq b c T w (by omega) (by omega) hT)
          have hx3 := HX.out
          clear hG7 hR7 G5 R5 B5 HBD HX HCH
          simp only [hT] at hx3
          clear hT
          by_cases hcb : c < b
          · have d1 : decide ((c : Int) < (b : Int)) = true := by simp; omega
            have d1n : decide (c < b) = true := by simp; omega
            rw [if_pos hcb] at hx3
            have HXX := Lib.hid hx3
            clear hx3
            go_wp2_with fail
            refine hok.mono ?_
            rintro e w8 ⟨rfl, hE8⟩
            have G8 := Lib.hid (grown_ext G7.out hE8)
            have R8 := Lib.hid (R7.out.ext hE8)
            have B8 := Lib.hid (B7.out.ext hE8)
            clear hE8 hok G7 R7 B7
            go_wp2_with fail
            refine (rrefuse_any r s _ o 3 ((j : Int) + 1) _ R8.out).mono ?_
            rintro e w9 ⟨rfl, hG9, hR9⟩
            have G9 := Lib.hid (grown_trans G8.out hG9)
            have R9 := Lib.hid hR9
            have B9 := Lib.hid (B8.out.grown hG9 (by simp; omega))
            clear hG9 hR9 G8 R8 B8
            go_wp2_with fail
            refine (HRG.out _).mono ?_
            rintro e wz ⟨rfl, hEz⟩
            have GZ := Lib.hid (grown_ext G9.out hEz)
            have RZ := Lib.hid (R9.out.ext hEz)
            have BZ := Lib.hid (B9.out.ext hEz)
            clear hEz G9 R9 B9
            have kb := BZ.out
            obtain ⟨z0, z1, z2, z3⟩ := kb.cells4
            have f0 := kb.free 0
            have f1 := kb.free 1
            have f2 := kb.free 2
            have f3 := kb.free 3
            have hltb := kb.lt
            obtain ⟨y0, y1, y2, y3⟩ := (kb.store4 (.int .u64 (wd (T) 0)) (.int .u64 (wd (T) 1)) (.int .u64 (wd (T) 2)) (.int .u64 (wd (T) 3))).cells4
            clear kb
            go_wp2_with fail
            refine bodyPost_ret (v := sv (T)) ?_ rfl ?_
            · simp [results, Tryz.results47, go_sem, y0, y1, y2, y3]
            · rw [← HXX.out]
              exact ⟨T, j1 + k, hck, rfl, grown_store (grown_store (grown_store (grown_store GZ.out _ _ _ (Nat.le_refl _)) _ _ _ (Nat.le_refl _)) _ _ _ (Nat.le_refl _)) _ _ _ (Nat.le_refl _), by rw [show ((i + (n + 1) : Nat) : Int) = (j : Int) + 1 by have := HJ.out; omega]; exact RZ.out.own (by omega) _ _ _ _⟩
          · have d1 : decide ((c : Int) < (b : Int)) = false := by simp; omega
            have d1n : decide (c < b) = false := by simp; omega
            rw [if_neg hcb] at hx3
            have HXX := Lib.hid hx3
            clear hx3
            go_wp2_with fail
            refine hok.mono ?_
            rintro e w8 ⟨rfl, hE8⟩
            have G8 := Lib.hid (grown_ext G7.out hE8)
            have R8 := Lib.hid (R7.out.ext hE8)
            have B8 := Lib.hid (B7.out.ext hE8)
            clear hE8 hok G7 R7 B7
            go_wp2_with fail
            refine (HRG.out _).mono ?_
            rintro e wz ⟨rfl, hEz⟩
            have GZ := Lib.hid (grown_ext G8.out hEz)
            have RZ := Lib.hid (R8.out.ext hEz)
            have BZ := Lib.hid (B8.out.ext hEz)
            clear hEz G8 R8 B8
            have kb := BZ.out
            obtain ⟨z0, z1, z2, z3⟩ := kb.cells4
            have f0 := kb.free 0
            have f1 := kb.free 1
            have f2 := kb.free 2
            have f3 := kb.free 3
            have hltb := kb.lt
            obtain ⟨y0, y1, y2, y3⟩ := (kb.store4 (.int .u64 (wd (T) 0)) (.int .u64 (wd (T) 1)) (.int .u64 (wd (T) 2)) (.int .u64 (wd (T) 3))).cells4
            clear kb
            go_wp2_with fail
            refine bodyPost_ret (v := sv (T)) ?_ rfl ?_
            · simp [results, Tryz.results47, go_sem, y0, y1, y2, y3]
            · rw [← HXX.out]
              refine ⟨rfl, grown_store (grown_store (grown_store (grown_store GZ.out _ _ _ (Nat.le_refl _)) _ _ _ (Nat.le_refl _)) _ _ _ (Nat.le_refl _)) _ _ _ (Nat.le_refl _), ?_⟩
              rw [show i + (n + 1 + k) = j1 + k by have := HJ.out; have := HJ1.out; omega]
              exact RZ.out.own (by omega) _ _ _ _
theorem ritem_any (r : Nat) (s : ByteArray) (i o : Nat) (w : World) (h : RR w r s i o 0 0) (hi : i ≤ s.size) (x : Sum Nat (BitVec 256 × Nat)) (hx : itm unq (rest s i) = x) :
    Calls Tryz.prog 47 #[.pointer (some ⟨r, 0, none⟩)] w fun e w' => RiEnd w w' r s i o e x := by
  rw [itm_sum] at hx
  cases hq : Lib.hasPrefix (rest s i) [91, 58] with
  | true => rw [if_pos hq] at hx; exact ritem_named r s i o w h hi hq x hx
  | false => rw [if_neg (by rw [hq]; simp)] at hx; exact ritem_span r s i o w h hi hq x hx
end Go.Proofs.YtecjodcaeldidaaGreatDoor
namespace Go.Proofs.YtecjodcaeldidaaGreatDoor
open Go Go.RowKit
/-- What 'class' answers. -/
def RkEnd (w w' : World) (r : Nat) (s : ByteArray) (o : Nat) (e : Ending) : Sum (Bool × Nat) (BitVec 256 × Nat) → Prop
  | .inl (b, q) => ∃ (T : BitVec 256) (j : Nat), j + o ≤ s.size + 41 ∧ e = .returned (sv T) ∧ w.grownBy w' (some r) ∧ RR w' r s j o (if b = true then 4 else 3) (q : Int)
  | .inr (T, m) => e = .returned (sv T) ∧ m ≤ s.size ∧ w.grownBy w' (some r) ∧ RR w' r s m o 0 0
def RkOk (g : Nat) : Prop := ∀ (r : Nat) (s : ByteArray) (i : Nat) (w : World) (o : Nat) (x : Sum (Bool × Nat) (BitVec 256 × Nat)), RR w r s i o 0 0 → i ≤ s.size → o ≤ 40 → (rest s i).length < g → cls unq g o (rest s i) i = x →
  Calls Tryz.prog 22 #[.pointer (some ⟨r, 0, none⟩)] w fun e w' => RkEnd w w' r s o e x
set_option maxHeartbeats 4000000 in
set_option maxRecDepth 20000 in
theorem rclass_no (r : Nat) (s : ByteArray) (i : Nat) (w : World) (o : Nat) (h : RR w r s i o 0 0) (hi : i ≤ s.size) (ho : o ≤ 40) (hq : Lib.hasPrefix (rest s i) [91] = false) :
    Calls Tryz.prog 22 #[.pointer (some ⟨r, 0, none⟩)] w fun e w' => RkEnd w w' r s o e (.inl (false, i)) := by
  have hsz := h.sz
  have hrw := h.blk.lt
  have hx0 : Ext w ((w.alloc (.cells zer 27)).alloc (.cells zer 27)) := by (repeat' (first | (with_reducible exact Below.refl _ _) | (with_reducible assumption) | (with_reducible refine below_drewN ?_ _) | (with_reducible refine Below.alloc ?_ ?_ _) | (with_reducible refine Below.drew ?_) | (with_reducible refine Below.setCell ?_ ?_ _) | (with_reducible refine Below.trans ?_ (Below.mono (by with_reducible assumption) ?_)) | go_size))
  have HH := Lib.hid (h.ext hx0)
  have HB := Lib.hid ((Blk.new w zer 27).alloc (.cells zer 27))
  have HS := Lib.hid (show Blk ((w.alloc (.cells zer 27)).alloc (.cells zer 27)) (w.heap.size + 1) (svs 0#256) 27 from by
    have := Blk.new (w.alloc (.cells zer 27)) zer 27
    simp only [World.size_alloc] at this
    rw [← zer_svs]; exact this)
  have HE := Lib.hid hx0
  have HQ := Lib.hid (fun w => rhasp_at s ⟨#[91]⟩ i (i : Int) rfl hi hsz (by decide) false hq w)
  have dsz : decide ((s.size : Int) < (i : Int)) = false := by simp; omega
  clear h hq hx0
  go_enter Tryz.func22, Tryz.ntmps22
  go_wp2_with fail
  generalize (w.alloc (.cells zer 27)).alloc (.cells zer 27) = w1 at HH HB HS HE ⊢
  refine G.wp_region_stab (G := Ext) (fun _ => none) (by kernel_rfl) (by kernel_rfl) (fun _ _ h => by cases h) (fun hex => ?_)
  iterate 10
    (refine G.wpS_one (A := ?_) hex rfl rfl (by simp) ?_ ?_ ?_
     rotate_left 2
     · intro w' hC K hK
       have d0 := (HH.out.blk.ext hC.1).cell 0; have d1 := (HH.out.blk.ext hC.1).cell 1
       go_wp2_with (refine (HQ.out _).mono ?_; rintro e wq ⟨rfl, hEq⟩)
       refine hK _ ?_
       first | exact Below.refl _ _ | assumption | ((repeat' (first | (with_reducible exact Below.refl _ _) | (with_reducible assumption) | (with_reducible refine below_drewN ?_ _) | (with_reducible refine Below.alloc ?_ ?_ _) | (with_reducible refine Below.drew ?_) | (with_reducible refine Below.setCell ?_ ?_ _) | (with_reducible refine Below.trans ?_ (Below.mono (by with_reducible assumption) ?_)) | go_size)))
     rotate_left 1
     · rfl
     clear hex; intro hex)
  refine G.wpS_nil fun w2 hAll => ?_
  have hE := hAll.1
  have H2 := Lib.hid (HH.out.ext hE)
  have B2 := Lib.hid (HB.out.ext hE)
  have S2 := Lib.hid (HS.out.ext hE)
  have E2 := Lib.hid (grown_of_ext (row := some r) (bel_call HE.out hE))
  have k0 := H2.out.blk.cell 0
  have k1 := H2.out.blk.cell 1
  clear hE hex hAll HH HB HE HQ HS
  go_wp2_with fail
  refine (rrefuse_any r s _ o 3 (i : Int) _ H2.out).mono ?_
  rintro e w9 ⟨rfl, hG9, hR9⟩
  have G9 := Lib.hid (grown_trans E2.out hG9)
  have R9 := Lib.hid hR9
  have B9 := Lib.hid (B2.out.grown hG9 (by simp; omega))
  have S9 := Lib.hid (S2.out.grown hG9 (by simp; omega))
  clear hG9 hR9 k0 k1 E2 H2 B2 S2
  obtain ⟨q0, q1, q2, q3⟩ := S9.out.cells4
  have kb := B9.out
  obtain ⟨z0, z1, z2, z3⟩ := kb.cells4
  have g0 := kb.free 0
  have g1 := kb.free 1
  have g2 := kb.free 2
  have g3 := kb.free 3
  have hltb := kb.lt
  obtain ⟨y0, y1, y2, y3⟩ := (kb.store4 (.int .u64 (wd 0#256 0)) (.int .u64 (wd 0#256 1)) (.int .u64 (wd 0#256 2)) (.int .u64 (wd 0#256 3))).cells4
  clear kb
  go_wp2_with fail
  refine bodyPost_ret (v := sv 0#256) ?_ rfl ?_
  · simp [results, Tryz.results22, go_sem, y0, y1, y2, y3]
  · exact ⟨0#256, i, by omega, rfl, grown_store (grown_store (grown_store (grown_store G9.out _ _ _ (Nat.le_refl _)) _ _ _ (Nat.le_refl _)) _ _ _ (Nat.le_refl _)) _ _ _ (Nat.le_refl _), R9.out.own (by omega) _ _ _ _⟩
set_option maxHeartbeats 4000000 in
set_option maxRecDepth 20000 in
theorem rclass_deep (r : Nat) (s : ByteArray) (i : Nat) (w : World) (h : RR w r s i 40 0 0) (hi : i ≤ s.size) (hq : Lib.hasPrefix (rest s i) [91] = true) :
    Calls Tryz.prog 22 #[.pointer (some ⟨r, 0, none⟩)] w fun e w' => RkEnd w w' r s 40 e (.inl (true, i)) := by
  have hsz := h.sz
  have hrw := h.blk.lt
  have hx0 : Ext w ((w.alloc (.cells zer 27)).alloc (.cells zer 27)) := by (repeat' (first | (with_reducible exact Below.refl _ _) | (with_reducible assumption) | (with_reducible refine below_drewN ?_ _) | (with_reducible refine Below.alloc ?_ ?_ _) | (with_reducible refine Below.drew ?_) | (with_reducible refine Below.setCell ?_ ?_ _) | (with_reducible refine Below.trans ?_ (Below.mono (by with_reducible assumption) ?_)) | go_size))
  have HH := Lib.hid (h.ext hx0)
  have HB := Lib.hid ((Blk.new w zer 27).alloc (.cells zer 27))
  have HS := Lib.hid (show Blk ((w.alloc (.cells zer 27)).alloc (.cells zer 27)) (w.heap.size + 1) (svs 0#256) 27 from by
    have := Blk.new (w.alloc (.cells zer 27)) zer 27
    simp only [World.size_alloc] at this
    rw [← zer_svs]; exact this)
  have HE := Lib.hid hx0
  have HQ := Lib.hid (fun w => rhasp_at s ⟨#[91]⟩ i (i : Int) rfl hi hsz (by decide) true hq w)
  clear h hq hx0
  go_enter Tryz.func22, Tryz.ntmps22
  go_wp2_with fail
  generalize (w.alloc (.cells zer 27)).alloc (.cells zer 27) = w1 at HH HB HS HE ⊢
  refine G.wp_region_stab (G := Ext) (fun _ => none) (by kernel_rfl) (by kernel_rfl) (fun _ _ h => by cases h) (fun hex => ?_)
  iterate 10
    (refine G.wpS_one (A := ?_) hex rfl rfl (by simp) ?_ ?_ ?_
     rotate_left 2
     · intro w' hC K hK
       have d0 := (HH.out.blk.ext hC.1).cell 0; have d1 := (HH.out.blk.ext hC.1).cell 1
       go_wp2_with (refine (HQ.out _).mono ?_; rintro e wq ⟨rfl, hEq⟩)
       refine hK _ ?_
       first | exact Below.refl _ _ | assumption | ((repeat' (first | (with_reducible exact Below.refl _ _) | (with_reducible assumption) | (with_reducible refine below_drewN ?_ _) | (with_reducible refine Below.alloc ?_ ?_ _) | (with_reducible refine Below.drew ?_) | (with_reducible refine Below.setCell ?_ ?_ _) | (with_reducible refine Below.trans ?_ (Below.mono (by with_reducible assumption) ?_)) | go_size)))
     rotate_left 1
     · rfl
     clear hex; intro hex)
  refine G.wpS_nil fun w2 hAll => ?_
  have hE := hAll.1
  have H2 := Lib.hid (HH.out.ext hE)
  have B2 := Lib.hid (HB.out.ext hE)
  have S2 := Lib.hid (HS.out.ext hE)
  have E2 := Lib.hid (grown_of_ext (row := some r) (bel_call HE.out hE))
  have k1 := H2.out.blk.cell 1
  have k2 : w2.cell? ⟨r, 2, none⟩ = some (.int .i64 40) := H2.out.blk.cell 2
  clear hE hex hAll HH HB HE HQ HS
  go_wp2_with fail
  refine (rrefuse_any r s _ 40 4 (i : Int) _ H2.out).mono ?_
  rintro e w9 ⟨rfl, hG9, hR9⟩
  have G9 := Lib.hid (grown_trans E2.out hG9)
  have R9 := Lib.hid hR9
  have B9 := Lib.hid (B2.out.grown hG9 (by simp; omega))
  have S9 := Lib.hid (S2.out.grown hG9 (by simp; omega))
  clear hG9 hR9 k1 k2 E2 H2 B2 S2
  obtain ⟨q0, q1, q2, q3⟩ := S9.out.cells4
  have kb := B9.out
  obtain ⟨z0, z1, z2, z3⟩ := kb.cells4
  have g0 := kb.free 0
  have g1 := kb.free 1
  have g2 := kb.free 2
  have g3 := kb.free 3
  have hltb := kb.lt
  obtain ⟨y0, y1, y2, y3⟩ := (kb.store4 (.int .u64 (wd 0#256 0)) (.int .u64 (wd 0#256 1)) (.int .u64 (wd 0#256 2)) (.int .u64 (wd 0#256 3))).cells4
  clear kb
  go_wp2_with fail
  refine bodyPost_ret (v := sv 0#256) ?_ rfl ?_
  · simp [results, Tryz.results22, go_sem, y0, y1, y2, y3]
  · exact ⟨0#256, i, by omega, rfl, grown_store (grown_store (grown_store (grown_store G9.out _ _ _ (Nat.le_refl _)) _ _ _ (Nat.le_refl _)) _ _ _ (Nat.le_refl _)) _ _ _ (Nat.le_refl _), R9.out.own (by omega) _ _ _ _⟩
end Go.Proofs.YtecjodcaeldidaaGreatDoor
