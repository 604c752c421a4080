/- A region whose order is left open, whose operations read old memory, reckon, and call what makes new memory alone: one walk in the order of the text serves every order. What an operation hands on is either one value, or a value of which something is said that stays true while memory grows. -/
import Derived.Orders
import Derived.Still
import Derived.Below
namespace Go.Proofs.YtgcjclglhijchaaDoor
open Go Go.RowKit

/-- All of w's blocks are in w', as they were. -/
abbrev Ext (w w' : World) : Prop := Below w.heap.size w w'
theorem Ext.refl (w : World) : Ext w w := Below.refl _ _
theorem Ext.trans {a b c : World} (h : Ext a b) (k : Ext b c) : Ext a c := Below.trans h (Below.mono k h.size)

/-- A block holds what it held; a mark on it may have turned. -/
def like (o o' : Option Obj) : Prop := o' = o ∨ ∃ c t f f', o = some (.cells c t f) ∧ o' = some (.cells c t f')
theorem like.trans {a b c : Option Obj} (h : like a b) (k : like b c) : like a c := by
  rcases h with rfl | ⟨x, t, f, f', rfl, rfl⟩
  · exact k
  · rcases k with rfl | ⟨y, u, g, g', e, rfl⟩
    · exact .inr ⟨x, t, f, f', rfl, rfl⟩
    · cases e; exact .inr ⟨x, t, f, g', rfl, rfl⟩
/-- All of w's blocks are in w', but for marks. -/
def Lk (w w' : World) : Prop := w.heap.size ≤ w'.heap.size ∧ ∀ k, k < w.heap.size → like w.heap[k]? w'.heap[k]?
/-- .. and those of W are as they were. -/
def Gr (W w w' : World) : Prop := Below W.heap.size w w' ∧ Lk w w'
theorem Gr.refl (W w : World) : Gr W w w := ⟨Below.refl _ _, Nat.le_refl _, fun _ _ => .inl rfl⟩
theorem Gr.trans {W a b c : World} (h : Gr W a b) (k : Gr W b c) : Gr W a c :=
  ⟨Below.trans h.1 k.1, Nat.le_trans h.2.1 k.2.1, fun i hi => (h.2.2 i hi).trans (k.2.2 i (Nat.lt_of_lt_of_le hi h.2.1))⟩
theorem Gr.lk {W w w' : World} (h : Gr W w w') : Lk w w' := h.2
theorem Gr.draw (W : World) : Gr W W { W with drawn := W.drawn + 1 } := ⟨⟨rfl, rfl, rfl, Nat.le_refl _, fun _ _ => rfl⟩, Nat.le_refl _, fun _ _ => .inl rfl⟩
theorem Ext.lk {w w' : World} (h : Ext w w') : Lk w w' := ⟨h.size, fun k hk => .inl (h.block k hk)⟩
theorem Gr.of_ext {W w w' : World} (h : Ext w w') (hW : W.heap.size ≤ w.heap.size) : Gr W w w' := ⟨h.mono hW, h.lk⟩
theorem Gr.ext {W w : World} (h : Gr W W w) : Ext W w := h.1
theorem Lk.cell {w w' : World} (h : Lk w w') {b o : Nat} (hb : b < w.heap.size) : w'.cell? ⟨b, o, none⟩ = w.cell? ⟨b, o, none⟩ := by
  unfold World.cell?
  rcases h.2 b hb with e | ⟨c, t, f, f', e1, e2⟩
  · simp only [e]
  · simp only [e1, e2]

/-- A frame that stops as soon as it has been handed a value. -/
def dummyFr : Frame := { fn := 0, tmps := #[undef], todo := [.extern "x" #[], .code (.refuse "x")], defers := [], mode := .run, kind := .normal }

section
variable {P : Program} {ops : Array Oper} {md : Region.Mode} {Rs : Nat → Option (Value → World → Prop)} {W : World}

abbrev Env := Nat → World → Prop
def Env.put (E : Env) (i : Nat) (p : World → Prop) : Env := fun j w => (j = i → p w) ∧ E j w
/-- A world that may stand behind some of the region's operations. -/
def All (W : World) (E : Env) (w : World) : Prop := Gr W W w ∧ ∀ i, E i w
/-- .. in which an operation may come up: of what ran ahead, that which it waits for is known. -/
def Cls (W : World) (o : Oper) (E : Env) (w : World) : Prop := Gr W W w ∧ ∀ i, (o.after.any fun e => Region.binds .any e && e.on == i) = true → E i w

def sUpon (P : Program) (W w : World) (R : Value → World → Prop) : Result Next → Prop
  | .ok (.value u) w' => Gr W w w' ∧ R u w'
  | .ok .skip w' => Gr W w w' ∧ R undef w'
  | .ok (.enter f args) w' => Calls P f args w' fun e w'' => ∃ u, e = .returned u ∧ Gr W w w'' ∧ R u w''
  | .ok (.row row args) w' => Go.Rows P row args w' fun u w'' => Gr W w w'' ∧ R u w''
  | _ => False
def sAt (P : Program) (W : World) (o : Oper) (a : Act) (w : World) (R : Value → World → Prop) : Prop := sUpon P W w R ((execOp a.eval o).run P w)

def Allowed (Rs : Nat → Option (Value → World → Prop)) (j : Nat) (o : Oper) (R : Value → World → Prop) : Prop :=
  match Rs j with
  | some R' => R = R'
  | none => match o.dst with
    | none => R = fun _ _ => True
    | some _ => ∃ u, R = fun v _ => v = u
def Yd (P : Program) (ops : Array Oper) (Rs : Nat → Option (Value → World → Prop)) (W : World) (j : Nat) (o : Oper) (a : Act) (E : Env) (R : Value → World → Prop) : Prop :=
  (Region.wanted o (yielded ops a.tmps) = true ∧ Allowed Rs j o R ∧ ∀ w, Cls W o E w → sAt P W o a w R) ∨
  (Region.wanted o (yielded ops a.tmps) = false ∧ R = fun v _ => v = undef)
def sOp (P : Program) (ops : Array Oper) (Rs : Nat → Option (Value → World → Prop)) (W : World) (j : Nat) (K : Act → Env → Prop) (a : Act) (E : Env) : Prop :=
  match ops[j]? with
  | none => K a E
  | some o => ∃ R, Yd P ops Rs W j o a E R ∧ ∀ v, (∃ w, All W (E.put j (R v)) w) → K (a.put o.dst v) (E.put j (R v))
def anyS (P : Program) (md : Region.Mode) (ops : Array Oper) (Rs : Nat → Option (Value → World → Prop)) (W : World) (Q : Act → World → Prop) : Nat → Array Bool → Act → Env → Prop
  | 0, listed, a, E => Region.ready md ops listed = [] ∧ ∀ w, All W E w → Q a w
  | fuel + 1, listed, a, E =>
    (Region.ready md ops listed = [] → ∀ w, All W E w → Q a w) ∧
    ∀ i ∈ Region.ready md ops listed, sOp P ops Rs W i (anyS P md ops Rs W Q fuel (listed.setIfInBounds i true)) a E

theorem stop_frame (v : Value) (w : World) : ∃ o w', step P (lone (dummyFr.finish v) [] w) = .ended o w' :=
  ⟨_, _, step_lone_ended (by simp [dummyFr, Frame.finish, stepG, stepG.exec]; exact ⟨rfl, rfl⟩)⟩
theorem same_stop {m : Machine} {n n' : Nat} {v v' : Value} {w w' : World} (h : runN P n m = .next (lone (dummyFr.finish v) [] w)) (h' : runN P n' m = .next (lone (dummyFr.finish v') [] w')) : v = v' := by
  obtain ⟨o, wd, hd⟩ := stop_frame (P := P) v w
  obtain ⟨o', wd', hd'⟩ := stop_frame (P := P) v' w'
  rcases Nat.lt_trichotomy n n' with hlt | rfl | hlt
  · have e : n' = n + (n' - n - 1 + 1) := by omega
    rw [e, runN_add, h] at h'
    simp [runN, hd] at h'
  · rw [h] at h'
    have e := Stepped.next.inj h'
    simp [lone, dummyFr, Frame.finish] at e
    exact e.2
  · have e : n = n' + (n - n' - 1 + 1) := by omega
    rw [e, runN_add, h'] at h
    simp [runN, hd'] at h
theorem Calls.stops {f : FuncId} {args : Array Value} {w : World} {u : Value} {X : World → Prop} (h : Calls P f args w fun e w'' => ∃ v, e = .returned v ∧ X w'' ∧ v = u) :
    ∃ n w', runN P n (lone (Frame.enter P f args .normal) [dummyFr] w) = .next (lone (dummyFr.finish u) [] w') := by
  obtain ⟨e, w1, fr, ⟨v, rfl, _, rfl⟩, hc, hfn, hl⟩ := h [dummyFr]
  obtain ⟨n, hn⟩ := hc
  refine ⟨n + 1, w1, ?_⟩
  rw [runN_add, hn]
  simp [runN, step_leave_returned hl]
/-- A call hands back one value. -/
theorem Calls.one_value {f : FuncId} {args : Array Value} {w : World} {u u' : Value} {X X' : World → Prop} (h : Calls P f args w fun e w'' => ∃ v, e = .returned v ∧ X w'' ∧ v = u)
    (h' : Calls P f args w fun e w'' => ∃ v, e = .returned v ∧ X' w'' ∧ v = u') : u = u' := by
  obtain ⟨n, w1, hn⟩ := Calls.stops h
  obtain ⟨n', w1', hn'⟩ := Calls.stops h'
  exact same_stop hn hn'
theorem Rows.one_value {row : String} {args : Array Value} {w : World} {u u' : Value} {X X' : World → Prop} (h : Go.Rows P row args w fun v w'' => X w'' ∧ v = u)
    (h' : Go.Rows P row args w fun v w'' => X' w'' ∧ v = u') : u = u' := by
  obtain ⟨v, w1, ⟨_, rfl⟩, n, hn⟩ := h dummyFr []
  obtain ⟨v', w1', ⟨_, rfl⟩, n', hn'⟩ := h' dummyFr []
  exact same_stop hn hn'

def Mono (R : Value → World → Prop) : Prop := ∀ v w w', Lk w w' → R v w → R v w'
def EMono (E : Env) : Prop := ∀ i w w', Lk w w' → E i w → E i w'
def RsMono (Rs : Nat → Option (Value → World → Prop)) : Prop := ∀ j R, Rs j = some R → Mono R

theorem EMono.put {E : Env} (h : EMono E) {i : Nat} {R : Value → World → Prop} (hR : Mono R) (v : Value) : EMono (E.put i (R v)) :=
  fun j w w' hx ⟨h1, h2⟩ => ⟨fun e => hR _ _ _ hx (h1 e), h j w w' hx h2⟩
theorem Allowed.mono (hRs : RsMono Rs) {j : Nat} {o : Oper} {R : Value → World → Prop} (h : Allowed Rs j o R) : Mono R := by
  unfold Allowed at h
  split at h
  · rename_i R' h'; subst h; exact hRs _ _ h'
  · split at h
    · subst h; exact fun _ _ _ _ e => e
    · obtain ⟨u, rfl⟩ := h; exact fun _ _ _ _ e => e
theorem Yd.mono (hRs : RsMono Rs) {j : Nat} {o : Oper} {a : Act} {E : Env} {R : Value → World → Prop} (h : Yd P ops Rs W j o a E R) : Mono R := by
  rcases h with ⟨_, h, _⟩ | ⟨_, rfl⟩
  · exact h.mono hRs
  · exact fun _ _ _ _ e => e
theorem All.cls {E : Env} {w : World} (h : All W E w) (o : Oper) : Cls W o E w := ⟨h.1, fun i _ => h.2 i⟩
theorem All.drop {E : Env} {i : Nat} {p : World → Prop} {w : World} (h : All W (E.put i p) w) : All W E w := ⟨h.1, fun j => (h.2 j).2⟩
theorem All.put {E : Env} {i : Nat} {p : World → Prop} {w : World} (h : All W E w) (hp : p w) : All W (E.put i p) w := ⟨h.1, fun j => ⟨fun _ => hp, h.2 j⟩⟩
theorem All.ext {E : Env} (hE : EMono E) {w w' : World} (h : All W E w) (hx : Gr W w w') : All W E w' := ⟨Gr.trans h.1 hx, fun i => hE i _ _ hx.lk (h.2 i)⟩
theorem sAt.exists {o : Oper} {a : Act} {w : World} {R : Value → World → Prop} (h : sAt P W o a w R) : ∃ v w', Gr W w w' ∧ R v w' := by
  unfold sAt at h
  generalize (execOp a.eval o).run P w = r at h
  cases r with
  | ok n w' =>
    cases n <;> simp only [sUpon] at h
    case value u => exact ⟨u, w', h⟩
    case skip => exact ⟨undef, w', h⟩
    case enter f args =>
      obtain ⟨e, w'', _, ⟨u, _, hx, hR⟩, _⟩ := h []
      exact ⟨u, w'', hx, hR⟩
    case row row args =>
      obtain ⟨u, w'', ⟨hx, hR⟩, _⟩ := h dummyFr []
      exact ⟨u, w'', hx, hR⟩
  | halt x w' => simp only [sUpon] at h
theorem Yd.exists (hRs : RsMono Rs) {j : Nat} {o : Oper} {a : Act} {E : Env} {R : Value → World → Prop} (h : Yd P ops Rs W j o a E R) (hE : EMono E) {w : World} (hw : All W E w) : ∃ v w', All W (E.put j (R v)) w' := by
  have hm := h.mono hRs
  rcases h with ⟨_, _, h⟩ | ⟨_, rfl⟩
  · obtain ⟨v, w', hx, hR⟩ := (h w (hw.cls o)).exists
    exact ⟨v, w', (hw.ext hE hx).put hR⟩
  · exact ⟨undef, w, hw.put rfl⟩
theorem sAt.const_eq {o : Oper} {a : Act} {w : World} {u u' : Value} (h : sAt P W o a w fun v _ => v = u) (h' : sAt P W o a w fun v _ => v = u') : u = u' := by
  unfold sAt at h h'
  generalize (execOp a.eval o).run P w = r at h h'
  cases r with
  | ok n w' =>
    cases n <;> simp only [sUpon] at h h'
    case value x => exact h.2.symm.trans h'.2
    case skip => exact h.2.symm.trans h'.2
    case enter f args =>
      exact Calls.one_value h h'
    case row row args => exact Rows.one_value h h'
  | halt x w' => simp only [sUpon] at h
theorem Yd.unique {j : Nat} {o : Oper} {a : Act} {E : Env} {R R' : Value → World → Prop} (h : Yd P ops Rs W j o a E R) (h' : Yd P ops Rs W j o a E R') {w : World} (hw : Cls W o E w) : R = R' := by
  rcases h with ⟨hn, ha, h⟩ | ⟨hn, rfl⟩ <;> rcases h' with ⟨hn', ha', h'⟩ | ⟨hn', rfl⟩
  · unfold Allowed at ha ha'
    split at ha
    · rename_i R0 h0
      simp only [h0] at ha'
      rw [ha, ha']
    · rename_i h0
      simp only [h0] at ha'
      split at ha
      · rename_i h1
        simp only [h1] at ha'
        rw [ha, ha']
      · rename_i d h1
        simp only [h1] at ha'
        obtain ⟨u, rfl⟩ := ha
        obtain ⟨u', rfl⟩ := ha'
        rw [(h w hw).const_eq (h' w hw)]
  · rw [hn] at hn'; cases hn'
  · rw [hn] at hn'; cases hn'
  · rfl
theorem Yd.of_same {j : Nat} {o : Oper} {a a' : Act} {E E' : Env} {R : Value → World → Prop} (h : Yd P ops Rs W j o a E R) (he : execOp a'.eval o = execOp a.eval o)
    (hw : Region.wanted o (yielded ops a'.tmps) = Region.wanted o (yielded ops a.tmps)) (hc : ∀ w, Cls W o E' w → Cls W o E w) : Yd P ops Rs W j o a' E' R := by
  unfold Yd sAt at *
  rw [he, hw]
  exact h.imp (fun ⟨h1, h2, h3⟩ => ⟨h1, h2, fun w hw => h3 w (hc w hw)⟩) id
theorem Env.put_comm (E : Env) {i j : Nat} (p q : World → Prop) : (E.put i p).put j q = (E.put j q).put i p := by
  funext k w
  exact propext ⟨fun ⟨a, b, c⟩ => ⟨b, a, c⟩, fun ⟨a, b, c⟩ => ⟨b, a, c⟩⟩
theorem cls_put {o : Oper} {E : Env} {i : Nat} {p : World → Prop} {w : World} (hi : ∀ e ∈ o.after, Region.binds .any e = true → e.on ≠ i) (h : Cls W o E w) : Cls W o (E.put i p) w :=
  ⟨h.1, fun k hk => ⟨fun e => by
    subst e
    obtain ⟨e, he, hb⟩ := Array.any_eq_true'.1 hk
    simp only [Bool.and_eq_true, beq_iff_eq] at hb
    exact absurd hb.2 (hi e he hb.1), h.2 k hk⟩⟩
theorem cls_drop {o : Oper} {E : Env} {i : Nat} {p : World → Prop} {w : World} (h : Cls W o (E.put i p) w) : Cls W o E w := ⟨h.1, fun k hk => (h.2 k hk).2⟩

theorem anyS_first (hRs : RsMono Rs) {Q : Act → World → Prop} {i : Nat} {oi : Oper} (hi : ops[i]? = some oi) (hsel : ∀ (j : Nat) (o : Oper) cs b, ops[j]? = some o → o.op ≠ .select cs b) :
    ∀ (fuel : Nat) (listed : Array Bool) (a : Act) (E : Env) (R : Value → World → Prop), EMono E → (∃ w, All W E w) →
      (∀ j oj, ops[j]? = some oj → j ≠ i → listed.getD j true = false → (∀ e ∈ oj.after, Region.binds .any e = true → e.on ≠ i) → oi.apart ops oj = true) →
      i ∈ Region.ready .any ops listed → Yd P ops Rs W i oi a E R →
      (∀ v, (∃ w, All W (E.put i (R v)) w) → anyS P .any ops Rs W Q fuel (listed.setIfInBounds i true) (a.put oi.dst v) (E.put i (R v))) → anyS P .any ops Rs W Q (fuel + 1) listed a E := by
  have self : ∀ (fuel : Nat) (listed : Array Bool) (a : Act) (E : Env) (R : Value → World → Prop), Yd P ops Rs W i oi a E R →
      (∀ v, (∃ w, All W (E.put i (R v)) w) → anyS P .any ops Rs W Q fuel (listed.setIfInBounds i true) (a.put oi.dst v) (E.put i (R v))) →
      sOp P ops Rs W i (anyS P .any ops Rs W Q fuel (listed.setIfInBounds i true)) a E := fun fuel listed a E R hy H => by
    unfold sOp
    simp only [hi]
    exact ⟨R, hy, H⟩
  intro fuel
  induction fuel with
  | zero =>
    intro listed a E R hE hex _ hr hy H
    refine ⟨fun h => (by rw [h] at hr; cases hr), fun j hj => ?_⟩
    by_cases hji : j = i
    · subst hji; exact self _ _ _ _ _ hy H
    · have h1 := ready_mono hj hji
      obtain ⟨w, hw⟩ := hex
      obtain ⟨v, w', hw'⟩ := hy.exists hRs hE hw
      rw [(H v ⟨w', hw'⟩).1] at h1
      cases h1
  | succ fuel ih =>
    intro listed a E R hE hex hfree hr hy H
    refine ⟨fun h => (by rw [h] at hr; cases hr), fun j hj => ?_⟩
    by_cases hji : j = i
    · subst hji; exact self _ _ _ _ _ hy H
    · obtain ⟨w0, hw0⟩ := hex
      obtain ⟨v0, w0', hw0'⟩ := hy.exists hRs hE hw0
      obtain ⟨hjun, oj, hoj, hall⟩ := mem_ready.1 hj
      have hnot : ∀ e ∈ oj.after, Region.binds .any e = true → e.on ≠ i := fun e he hb heq => by
        have h1 := hall e he hb
        have h0 := (mem_ready.1 hr).1
        rw [heq] at h1
        rcases Nat.lt_or_ge i listed.size with h' | h'
        · simp [h'] at h0 h1; rw [h0] at h1; cases h1
        · simp [Array.getElem?_eq_none h'] at h1
      have hap := hfree j oj hoj hji hjun hnot
      obtain ⟨p1, p2, p3⟩ := Oper.apart_spec hap
      have hsi := fun cs b => hsel i oi cs b hi
      have hsj := fun cs b => hsel j oj cs b hoj
      have stepj : ∀ v, (∃ w, All W (E.put i (R v)) w) → ∃ Rj, Yd P ops Rs W j oj a E Rj ∧
          ∀ u, (∃ w, All W ((E.put i (R v)).put j (Rj u)) w) → anyS P .any ops Rs W Q fuel ((listed.setIfInBounds i true).setIfInBounds j true) ((a.put oi.dst v).put oj.dst u) ((E.put i (R v)).put j (Rj u)) := fun v hv => by
        have h1 := (H v hv).2 j (ready_mono hj hji)
        unfold sOp at h1
        simp only [hoj] at h1
        obtain ⟨Rj, hyj, hK⟩ := h1
        exact ⟨Rj, hyj.of_same (execOp_put oj hsj a oi.dst v p1).symm (wanted_put oj a oi.dst v p1).symm (fun w hw => cls_put hnot hw), hK⟩
      obtain ⟨Rj, hyj, _⟩ := stepj v0 ⟨w0', hw0'⟩
      unfold sOp
      simp only [hoj]
      refine ⟨Rj, hyj, fun u hu => ?_⟩
      have hfree' : ∀ k ok, ops[k]? = some ok → k ≠ i → (listed.setIfInBounds j true).getD k true = false →
          (∀ e ∈ ok.after, Region.binds .any e = true → e.on ≠ i) → oi.apart ops ok = true := fun k ok hk hki hun hno => by
        refine hfree k ok hk hki ?_ hno
        by_cases hjk : j = k
        · subst hjk; exact hjun
        · rw [getD_set_ne true hjk] at hun; exact hun
      refine ih (listed.setIfInBounds j true) (a.put oj.dst u) (E.put j (Rj u)) R (hE.put (hyj.mono hRs) u) hu hfree' (ready_mono hr (Ne.symm hji))
        (hy.of_same (execOp_put oi hsi a oj.dst u p3) (wanted_put oi a oj.dst u p3) (fun w hw => cls_drop hw)) ?_
      intro v hv
      rw [Env.put_comm] at hv
      obtain ⟨w1, hw1⟩ := hv
      obtain ⟨Rj', hyj', hK⟩ := stepj v ⟨w1, hw1.drop⟩
      have e := hyj.unique hyj' (hw0.cls oj)
      subst e
      have := hK u ⟨w1, hw1⟩
      rw [Array.setIfInBounds_comm _ _ hji, ← Act.put_comm a v u p2, Env.put_comm]
      rw [Env.put_comm] at this
      rw [Env.put_comm]
      exact this

theorem wp_of_sAt {o : Oper} {a : Act} {w : World} {R : Value → World → Prop} {K : Act → World → Prop} {Q : Exit → Act → World → Prop} (h : sAt P W o a w R) (hK : ∀ v w', Gr W w w' → R v w' → K (a.put o.dst v) w') : o.wp P a w K Q := by
  unfold sAt at h
  unfold Oper.wp
  generalize (execOp a.eval o).run P w = r at h
  cases r with
  | ok n w' =>
    cases n <;> simp only [sUpon] at h <;> simp only [Oper.upon]
    case value u => exact hK _ _ h.1 h.2
    case skip => exact hK _ _ h.1 h.2
    case enter f args =>
      exact h.mono fun e w'' ⟨u, he, hx, hR⟩ => by subst he; exact hK _ _ hx hR
    case row row args => exact h.mono fun u w'' ⟨hx, hR⟩ => hK _ _ hx hR
  | halt x w' => simp only [sUpon] at h

theorem wpAny_of_anyS (hRs : RsMono Rs) {Q : Act → World → Prop} {Q' : Exit → Act → World → Prop} (hQ : ∀ a w, Q a w → Q' .normal a w) : ∀ (fuel : Nat) (listed : Array Bool) (a : Act) (E : Env) (w : World), EMono E → All W E w →
    anyS P md ops Rs W Q fuel listed a E → wpAny P md ops Q' fuel listed a w
  | 0, _, _, _, w, _, hw, h => ⟨h.1, hQ _ _ (h.2 w hw)⟩
  | fuel + 1, listed, a, E, w, hE, hw, h => ⟨fun h0 => hQ _ _ (h.1 h0 w hw), fun i hi => by
      have h1 := h.2 i hi
      unfold sOp at h1
      unfold wpOp
      split
      · rename_i ho; simp only [ho] at h1; exact wpAny_of_anyS hRs hQ fuel _ _ _ _ hE hw h1
      · rename_i o ho
        simp only [ho] at h1
        obtain ⟨R, hy, hK⟩ := h1
        have hm := hy.mono hRs
        rcases hy with ⟨hn, _, hs⟩ | ⟨hn, rfl⟩
        · rw [if_pos hn]
          exact .inl (wp_of_sAt (hs w (hw.cls o)) fun v w' hx hR => by
            have hw' := (hw.ext hE hx).put (i := i) hR
            exact wpAny_of_anyS hRs hQ fuel _ _ _ _ (hE.put hm v) hw' (hK v ⟨w', hw'⟩))
        · rw [if_neg (by rw [hn]; exact Bool.false_ne_true)]
          have hw' := hw.put (i := i) (p := fun _ => undef = undef) rfl
          exact wpAny_of_anyS hRs hQ fuel _ _ _ _ (hE.put hm undef) hw' (hK undef ⟨w, hw'⟩)⟩

/-- The walk in the order of the text: operation number k stands next. -/
def wpS (P : Program) (ops : Array Oper) (Rs : Nat → Option (Value → World → Prop)) (W : World) (Q : Act → World → Prop) : Nat → List Oper → Act → Env → Prop
  | _, [], a, E => ∀ w, All W E w → Q a w
  | k, o :: rest, a, E => ∃ R, Yd P ops Rs W k o a E R ∧ ∀ v, (∃ w, All W (E.put k (R v)) w) → wpS P ops Rs W Q (k + 1) rest (a.put o.dst v) (E.put k (R v))

theorem anyS_lex (hRs : RsMono Rs) {Q : Act → World → Prop} (hs : Region.noSelect ops = true) : ∀ (l : List Oper) (k : Nat) (listed : Array Bool) (a : Act) (E : Env), (∀ j, l[j]? = ops[k + j]?) →
    Region.lexFrom .any ops l.length k listed = true → EMono E → (∃ w, All W E w) → wpS P ops Rs W Q k l a E → anyS P .any ops Rs W Q l.length listed a E
  | [], _, _, _, _, _, hB, _, _, h => ⟨by simpa [Region.lexFrom] using hB, h⟩
  | o :: l, k, listed, a, E, hl, hB, hE, hex, h => by
    have h0 : ops[k]? = some o := by simpa using (hl 0).symm
    simp only [List.length_cons, Region.lexFrom, Bool.and_eq_true] at hB
    obtain ⟨⟨hr, hf⟩, hB'⟩ := hB
    obtain ⟨R, hy, hK⟩ := h
    exact anyS_first hRs h0 (Region.noSelect_spec hs) l.length listed a E R hE hex (Region.free_spec h0 hf) (by simpa using hr) hy
      (fun v hv => anyS_lex hRs hs l (k + 1) _ _ _ (fun j => by have := hl (j + 1); simpa [Nat.add_assoc, Nat.add_comm 1 j] using this) hB' (hE.put (hy.mono hRs) v) hv (hK v hv))

/-- ONE WALK IN THE ORDER OF THE TEXT SERVES EVERY ORDER. -/
theorem wp_region_stab (Rs : Nat → Option (Value → World → Prop)) {id : Nat} {Q : Exit → Act → World → Prop} {a : Act} {w : World} {l : List Oper} (hm : P.follows .mixedOrders = true) (hB : Region.lexB .any l.toArray = true) (hRs : RsMono Rs)
    (h : (∃ w', All w (fun _ _ => True) w') → wpS P l.toArray Rs w (Q .normal) 0 l a (fun _ _ => True)) : (Code.region id l.toArray true).wp P Q a w := by
  simp only [Region.lexB, Bool.and_eq_true] at hB
  have hw : All w (fun _ _ => True) { w with drawn := w.drawn + 1 } := ⟨Gr.draw w, fun _ => trivial⟩
  have hE : EMono (fun _ _ => True) := fun _ _ _ _ h => h
  refine wp_region_any hm (wpAny_of_anyS (Rs := Rs) (W := w) hRs (Q := Q .normal) (fun _ _ h => h) _ _ _ (fun _ _ => True) _ hE hw ?_)
  have := anyS_lex hRs (W := w) (P := P) hB.1 l 0 (Array.replicate l.toArray.size false) a (fun _ _ => True) (by simp) (by simpa using hB.2) hE ⟨_, hw⟩ (h ⟨_, hw⟩)
  simpa using this

/-! The steps. -/
theorem put_value {a A : Act} {d : Nat} {v : Value} (hlt : d < a.tmps.size) (h : a.put (some d) v = A) : v = A.tmps.getD d undef := by
  subst h
  simp [Act.put, hlt]
/-- What one operation alone comes to. -/
theorem sAt_of_wpList {o : Oper} {a : Act} {w : World} {K : Act → World → Prop} {R : Value → World → Prop} (hn : Region.wanted o (yielded ops a.tmps) = true)
    (h : wpList P ops (Exit.then K fun _ _ _ => False) [o] a w) (hK : ∀ v w', K (a.put o.dst v) w' → Gr W w w' ∧ R v w') (hD : ∀ d w', ¬ K ({ a with defers := d :: a.defers }.put o.dst undef) w') : sAt P W o a w R := by
  simp only [wpList] at h
  rw [if_pos hn] at h
  rcases h with h | ⟨_, a', w', h⟩
  · unfold Oper.wp at h
    unfold sAt
    generalize (execOp a.eval o).run P w = r at h
    cases r with
    | ok n w' =>
      cases n <;> simp only [Oper.upon, Exit.then] at h <;> simp only [sUpon]
      case value u => exact hK _ _ h
      case skip => exact hK _ _ h
      case defer d => exact absurd h (hD d w')
      case enter f args =>
        refine h.mono fun e w'' he => ?_
        cases e with
        | returned u => exact ⟨u, rfl, (hK _ _ he).1, (hK _ _ he).2⟩
        | panicked c => exact he.elim
        | outgrown => obtain ⟨_, _, he⟩ := he; exact he.elim
      case row row args => exact h.mono fun u w'' he => hK _ _ he
      all_goals exact h
    | halt x w' => cases x <;> simp only [Oper.upon, Exit.then] at h
  · exact h.elim
theorem Env.put_same (E : Env) (k : Nat) (u : Value) : (E.put k fun _ => u = u) = E := by
  funext i w
  exact propext ⟨fun h => h.2, fun h => ⟨fun _ => rfl, h⟩⟩
theorem Env.put_true (E : Env) (k : Nat) : (E.put k fun _ => True) = E := by
  funext i w
  exact propext ⟨fun h => h.2, fun h => ⟨fun _ => trivial, h⟩⟩
theorem put_defers_ne {a : Act} {dst : Option Tmp} {x : Deferred} {A : Act} (hA : A.defers = a.defers) : ({ a with defers := x :: a.defers } : Act).put dst undef ≠ A := by
  intro h
  have e : (({ a with defers := x :: a.defers } : Act).put dst undef).defers = x :: a.defers := by cases dst <;> rfl
  rw [h, hA] at e
  have := congrArg List.length e
  simp at this
theorem wpList_skip {o : Oper} {a : Act} {w : World} {K : Act → World → Prop} (hn : Region.wanted o (yielded ops a.tmps) = false) (h : wpList P ops (Exit.then K fun _ _ _ => False) [o] a w) : K (a.put o.dst undef) w := by
  simp only [wpList] at h
  rw [if_neg (by rw [hn]; exact Bool.false_ne_true)] at h
  exact h

/-- One operation, run alone, hands on one frame, whatever the world. -/
theorem wpS_one {Q : Act → World → Prop} {k : Nat} {o : Oper} {rest : List Oper} {a A : Act} {E : Env} {d : Nat} (hex : ∃ w, All W E w) (hk : Rs k = none) (hd : o.dst = some d) (hlt : d < a.tmps.size) (hA : A.defers = a.defers)
    (h1 : ∀ w, Cls W o E w → ∀ K : Act → World → Prop, (∀ w', Gr W w w' → K A w') → wpList P ops (Exit.then K fun _ _ _ => False) [o] a w)
    (h2 : (∃ w, All W E w) → wpS P ops Rs W Q (k + 1) rest A E) : wpS P ops Rs W Q k (o :: rest) a E := by
  obtain ⟨w, hw⟩ := hex
  have run := fun w' (hw' : Cls W o E w') => h1 w' hw' (fun a' w'' => a' = A ∧ Gr W w' w'') fun w'' hx => ⟨rfl, hx⟩
  by_cases hn : Region.wanted o (yielded ops a.tmps) = true
  · have key : ∀ w', Cls W o E w' → sAt P W o a w' fun u _ => a.put o.dst u = A := fun w' hw' =>
      sAt_of_wpList hn (run w' hw') (fun v w'' h => ⟨h.2, h.1⟩) (fun x w'' h => put_defers_ne hA h.1)
    obtain ⟨v, w1, hx, hv⟩ := (key w (hw.cls o)).exists
    refine ⟨fun u _ => u = v, .inl ⟨hn, by unfold Allowed; rw [hk, hd]; exact ⟨v, rfl⟩, fun w' hw' => ?_⟩, fun u hu => ?_⟩
    · have h := run w' hw'
      refine sAt_of_wpList hn h (fun u w'' h => ⟨h.2, ?_⟩) (fun x w'' h => put_defers_ne hA h.1)
      rw [hd] at h hv
      rw [put_value hlt h.1, put_value hlt hv]
    · obtain ⟨w2, hw2⟩ := hu
      have e : u = v := (hw2.2 k).1 rfl
      subst e
      rw [hv]
      show wpS P ops Rs W Q (k + 1) rest A (E.put k fun _ => u = u)
      rw [Env.put_same]
      exact h2 ⟨w2, hw2.drop⟩
  · have hn' : Region.wanted o (yielded ops a.tmps) = false := by simpa using hn
    have hv := (wpList_skip hn' (run w (hw.cls o))).1
    refine ⟨fun u _ => u = undef, .inr ⟨hn', rfl⟩, fun u hu => ?_⟩
    obtain ⟨w2, hw2⟩ := hu
    have e : u = undef := (hw2.2 k).1 rfl
    subst e
    rw [hv]
    show wpS P ops Rs W Q (k + 1) rest A (E.put k fun _ => undef = undef)
    rw [Env.put_same]
    exact h2 ⟨w2, hw2.drop⟩
/-- .. one that hands on nothing. -/
theorem wpS_none {Q : Act → World → Prop} {k : Nat} {o : Oper} {rest : List Oper} {a : Act} {E : Env} (_hex : ∃ w, All W E w) (hk : Rs k = none) (hd : o.dst = none)
    (h1 : ∀ w, Cls W o E w → ∀ K : Act → World → Prop, (∀ w', Gr W w w' → K a w') → wpList P ops (Exit.then K fun _ _ _ => False) [o] a w)
    (h2 : (∃ w, All W E w) → wpS P ops Rs W Q (k + 1) rest a E) : wpS P ops Rs W Q k (o :: rest) a E := by
  have e : ∀ v, a.put o.dst v = a := fun v => by rw [hd]; rfl
  have run := fun w' (hw' : Cls W o E w') => h1 w' hw' (fun a' w'' => a' = a ∧ Gr W w' w'') fun w'' hx => ⟨rfl, hx⟩
  by_cases hn : Region.wanted o (yielded ops a.tmps) = true
  · refine ⟨fun _ _ => True, .inl ⟨hn, by unfold Allowed; rw [hk, hd], fun w' hw' => ?_⟩, fun u hu => ?_⟩
    · exact sAt_of_wpList hn (run w' hw') (fun v w'' h => ⟨h.2, trivial⟩) (fun x w'' h => put_defers_ne rfl h.1)
    · rw [e, Env.put_true]
      obtain ⟨w2, hw2⟩ := hu
      exact h2 ⟨w2, hw2.drop⟩
  · have hn' : Region.wanted o (yielded ops a.tmps) = false := by simpa using hn
    refine ⟨fun u _ => u = undef, .inr ⟨hn', rfl⟩, fun u hu => ?_⟩
    obtain ⟨w2, hw2⟩ := hu
    have e' : u = undef := (hw2.2 k).1 rfl
    subst e'
    rw [e]
    show wpS P ops Rs W Q (k + 1) rest a (E.put k fun _ => undef = undef)
    rw [Env.put_same]
    exact h2 ⟨w2, hw2.drop⟩
/-- One operation of whose value something is said. -/
theorem wpS_rel {Q : Act → World → Prop} {k : Nat} {o : Oper} {rest : List Oper} {a : Act} {E : Env} {d : Nat} (R : Value → World → Prop) (hk : Rs k = some R) (hd : o.dst = some d) (hlt : d < a.tmps.size) (hn : Region.wanted o (yielded ops a.tmps) = true)
    (h1 : ∀ w, Cls W o E w → ∀ K : Act → World → Prop, (∀ v w', Gr W w w' → R v w' → K (a.put (some d) v) w') → wpList P ops (Exit.then K fun _ _ _ => False) [o] a w)
    (h2 : ∀ v w, All W (E.put k (R v)) w → R v w → wpS P ops Rs W Q (k + 1) rest (a.put (some d) v) (E.put k (R v))) : wpS P ops Rs W Q k (o :: rest) a E := by
  refine ⟨R, .inl ⟨hn, by unfold Allowed; rw [hk], fun w' hw' => ?_⟩, fun u hu => ?_⟩
  · have h := h1 w' hw' (fun a' w'' => ∃ v, a' = a.put (some d) v ∧ Gr W w' w'' ∧ R v w'') fun v w'' hx hR => ⟨v, rfl, hx, hR⟩
    refine sAt_of_wpList hn h (fun u w'' h => ?_) (fun x w'' h => ?_)
    · obtain ⟨v, e, hx, hR⟩ := h
      rw [hd] at e
      have e1 := put_value hlt e
      rw [put_value hlt (rfl : a.put (some d) v = a.put (some d) v)] at hR
      rw [e1]
      exact ⟨hx, hR⟩
    · obtain ⟨v, e, _, _⟩ := h
      exact put_defers_ne (a := a) (A := a.put (some d) v) rfl e
  · obtain ⟨w2, hw2⟩ := hu
    rw [hd]
    exact h2 u w2 hw2 ((hw2.2 k).1 rfl)
theorem wpS_nil {Q : Act → World → Prop} {k : Nat} {a : Act} {E : Env} (h : ∀ w, All W E w → Q a w) : wpS P ops Rs W Q k [] a E := h
end
end Go.Proofs.YtgcjclglhijchaaDoor
