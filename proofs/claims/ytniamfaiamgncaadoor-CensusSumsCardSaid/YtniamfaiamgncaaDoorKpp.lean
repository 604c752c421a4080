/- What wakes layer 14: the automaton of words of a and b (plain). -/
import Derived.Test.YtniamfaiamgncaaDoorCnp
import Derived.Test.YtniamfaiamgncaaDoorChm
namespace Go.Proofs.YtniamfaiamgncaaDoor
theorem sumB_if (P : Nat → Bool) (y z : Nat) : ∀ b, sumB (fun c => if P c then y else z) b = sumB (fun c => if P c then 1 else 0) b * y + sumB (fun c => if P c then 0 else 1) b * z
  | 0 => by simp [sumB]
  | b + 1 => by
    rw [sumB, sumB, sumB, sumB_if P y z b]
    cases P b with
    | true => simp [Nat.add_mul]; omega
    | false => simp [Nat.add_mul]; omega
def row2 (y m : Int) : List Int := ((List.replicate 256 y).set 97 m).set 98 m
def pD : Dd := ⟨[row2 1 2, row2 1 1, row2 1 2], [-1, -1, 0]⟩
theorem pD_ok : pD.Ok := okB_ok.1 (by decide +kernel)
def abB (c : Nat) : Bool := c == 97 || c == 98
theorem pD_to : ∀ c, c < 256 → pD.to 0 c = (if abB c then 2 else 1) ∧ pD.to 1 c = 1 ∧ pD.to 2 c = (if abB c then 2 else 1) := by decide +kernel
theorem pD_step {x : Int} (n : Nat) : cnt pD.to pD.lab x (n + 1) 0 = 2 * cnt pD.to pD.lab x n 2 + 254 * cnt pD.to pD.lab x n 1 ∧ cnt pD.to pD.lab x (n + 1) 1 = 256 * cnt pD.to pD.lab x n 1 ∧ cnt pD.to pD.lab x (n + 1) 2 = 2 * cnt pD.to pD.lab x n 2 + 254 * cnt pD.to pD.lab x n 1 := by
  have h1 : sumB (fun c => if abB c then 1 else 0) 256 = 2 := by decide +kernel
  have h2 : sumB (fun c => if abB c then 0 else 1) 256 = 254 := by decide +kernel
  have key : ∀ s, (∀ c, c < 256 → pD.to s c = (if abB c then 2 else 1)) → cnt pD.to pD.lab x (n + 1) s = 2 * cnt pD.to pD.lab x n 2 + 254 * cnt pD.to pD.lab x n 1 := by
    intro s hs
    rw [cnt, sumB_congr (g := fun c => if abB c then cnt pD.to pD.lab x n 2 else cnt pD.to pD.lab x n 1) (fun c hc => by rw [hs c hc]; cases abB c <;> rfl), sumB_if, h1, h2]
  refine ⟨key 0 fun c hc => (pD_to c hc).1, ?_, key 2 fun c hc => (pD_to c hc).2.2⟩
  rw [cnt, sumB_congr (g := fun _ => cnt pD.to pD.lab x n 1) (fun c hc => by rw [(pD_to c hc).2.1]), sumB_const]
theorem pD_zero : ∀ n, cnt pD.to pD.lab 0 n 1 = 0 ∧ cnt pD.to pD.lab 0 n 2 = 2 ^ n ∧ cnt pD.to pD.lab 0 (n + 1) 0 = 2 ^ (n + 1)
  | 0 => by
    have h1 : cnt pD.to pD.lab 0 0 1 = 0 := by decide +kernel
    have h2 : cnt pD.to pD.lab 0 0 2 = 1 := by decide +kernel
    exact ⟨h1, h2, by rw [(pD_step 0).1, h1, h2]⟩
  | n + 1 => by
    obtain ⟨h1, h2, h3⟩ := pD_zero n
    have e1 : cnt pD.to pD.lab 0 (n + 1) 1 = 0 := by rw [(pD_step n).2.1, h1]
    have e2 : cnt pD.to pD.lab 0 (n + 1) 2 = 2 ^ (n + 1) := by rw [(pD_step n).2.2, h1, h2, Nat.pow_succ]; omega
    exact ⟨e1, e2, by rw [(pD_step (n + 1)).1, e1, e2, Nat.pow_succ 2 (n + 1)]; omega⟩
theorem pD_c00 : cnt pD.to pD.lab 0 0 0 = 0 := by decide +kernel
theorem pD_below : ∀ n, below pD.to pD.lab 0 (n + 1) + 2 = 2 ^ (n + 1)
  | 0 => by
    show 0 + cnt pD.to pD.lab 0 0 0 + 2 = 2
    rw [pD_c00]
  | n + 1 => by
    have : below pD.to pD.lab 0 (n + 2) = below pD.to pD.lab 0 (n + 1) + cnt pD.to pD.lab 0 (n + 1) 0 := rfl
    rw [this, (pD_zero n).2.2, Nat.pow_succ 2 (n + 1)]
    have := pD_below n
    omega
theorem pD_rank {a b : Nat} (ha : abB a = true) (hb : abB b = true) : rankW pD.to pD.lab 0 [a, b] = 2 + (sumB (fun c => if abB c then 2 else 0) a + sumB (fun c => if abB c then 1 else 0) b) := by
  have ha6 : a < 256 := by unfold abB at ha; simp at ha; omega
  have hb6 : b < 256 := by unfold abB at hb; simp at hb; omega
  have h1 : below pD.to pD.lab 0 2 = 2 := by have h : below pD.to pD.lab 0 2 + 2 = 4 := pD_below 1; omega
  have e0 := pD_zero 0
  have e1 := pD_zero 1
  have ht : pD.to 0 a = 2 := by rw [(pD_to a ha6).1, ha]; rfl
  unfold rankW
  rw [show [a, b].length = 2 from rfl, h1, rankS, rankS, rankS, ht]
  rw [sumB_congr (g := fun c => if abB c then 2 else 0) (fun c hc => by
      show cnt pD.to pD.lab 0 1 (pD.to 0 c) = _
      rw [(pD_to c (by omega)).1]
      cases abB c with
      | true => exact e1.2.1
      | false => exact e1.1)]
  rw [sumB_congr (b := b) (g := fun c => if abB c then 1 else 0) (fun c hc => by
      show cnt pD.to pD.lab 0 0 (pD.to 2 c) = _
      rw [(pD_to c (by omega)).2.2]
      cases abB c with
      | true => exact e0.2.1
      | false => exact e0.1)]
  omega
theorem pD_ba : rankW pD.to pD.lab 0 [98, 97] = 4 := by
  rw [pD_rank (by decide) (by decide)]
  have h1 : sumB (fun c => if abB c then 2 else 0) 98 = 2 := by decide +kernel
  have h2 : sumB (fun c => if abB c then 1 else 0) 97 = 0 := by decide +kernel
  rw [h1, h2]
theorem pD_bb : rankW pD.to pD.lab 0 [98, 98] = 5 := by
  rw [pD_rank (by decide) (by decide)]
  have h1 : sumB (fun c => if abB c then 2 else 0) 98 = 2 := by decide +kernel
  have h2 : sumB (fun c => if abB c then 1 else 0) 98 = 1 := by decide +kernel
  rw [h1, h2]
section
variable {dl : Nat → Nat → Nat} {lab : Nat → Int} {x : Int}
theorem aheadB_no {l m : List Nat} (h1 : aheadB l m = true) (h2 : aheadB m l = true) : False := by
  have key : ∀ l m : List Nat, lexB l m = true → lexB m l = true → False := by
    intro l
    induction l with
    | nil => intro m h _; cases m <;> cases h
    | cons a l ih =>
      intro m h1 h2
      cases m with
      | nil => cases h1
      | cons b m =>
        rw [lexB] at h1 h2
        by_cases q : a = b
        · subst q; rw [if_pos rfl] at h1 h2; exact ih m h1 h2
        · rw [if_neg q] at h1
          rw [if_neg (fun e => q e.symm)] at h2
          have := of_decide_eq_true h1
          have := of_decide_eq_true h2
          omega
  unfold aheadB at h1 h2
  by_cases q : l.length = m.length
  · rw [if_pos q] at h1
    rw [if_pos q.symm] at h2
    exact key l m h1 h2
  · rw [if_neg q] at h1
    rw [if_neg (fun e => q e.symm)] at h2
    have := of_decide_eq_true h1
    have := of_decide_eq_true h2
    omega
/-- A label's word has its place alone. -/
theorem rank_inj {l m : List Nat} (h1 : ∀ c ∈ l, c < 256) (h2 : ∀ c ∈ m, c < 256) (k1 : lab (runA dl 0 l) = x) (k2 : lab (runA dl 0 m) = x) (h : rankW dl lab x l = rankW dl lab x m) : l = m := by
  by_cases q : l.length = m.length
  · rcases lexB_total l m q with i | i | i
    · have := (rankS_lex (dl := dl) (lab := lab) (x := x) l m 0 q h1 h2 i).2 k1
      unfold rankW at h
      rw [q] at h; omega
    · exact i
    · have := (rankS_lex (dl := dl) (lab := lab) (x := x) m l 0 q.symm h2 h1 i).2 k2
      unfold rankW at h
      rw [q] at h; omega
  · exfalso
    unfold rankW at h
    rcases Nat.lt_or_ge l.length m.length with p | p
    · have a1 := rankS_lt (dl := dl) l 0 h1 k1
      have a2 : below dl lab x (l.length + 1) ≤ below dl lab x m.length := below_mono (by omega)
      have a3 : below dl lab x (l.length + 1) = below dl lab x l.length + cnt dl lab x l.length 0 := rfl
      omega
    · have a1 := rankS_lt (dl := dl) m 0 h2 k2
      have a2 : below dl lab x (m.length + 1) ≤ below dl lab x l.length := below_mono (by omega)
      have a3 : below dl lab x (m.length + 1) = below dl lab x m.length + cnt dl lab x m.length 0 := rfl
      omega
theorem nthW_some {k : Nat} (h : k < below dl lab x 65) : ∃ w, nthW dl lab x k = some w := by
  have h0 : below dl lab x 0 = 0 := rfl
  obtain ⟨z, hz⟩ := findN_some (dl := dl) (lab := lab) (x := x) 65 0 k (by rw [Nat.zero_add]; omega)
  exact ⟨_, by unfold nthW; rw [hz]; rfl⟩
/-- A word of the label, of no more than 64 bytes, is the one at its place. -/
theorem nthW_of {l : List Nat} (hl : l.length ≤ 64) (h1 : ∀ c ∈ l, c < 256) (k1 : lab (runA dl 0 l) = x) : nthW dl lab x (rankW dl lab x l) = some l := by
  have a1 := rankS_lt (dl := dl) l 0 h1 k1
  have a2 : below dl lab x (l.length + 1) ≤ below dl lab x 65 := below_mono (by omega)
  have a3 : below dl lab x (l.length + 1) = below dl lab x l.length + cnt dl lab x l.length 0 := rfl
  obtain ⟨w, hw⟩ := nthW_some (dl := dl) (lab := lab) (x := x) (k := rankW dl lab x l) (by unfold rankW; omega)
  obtain ⟨s1, s2, s3, s4⟩ := nth_spec hw
  rw [hw, rank_inj s2 h1 s3 k1 s4]
end
theorem pD_nth : nthW pD.to pD.lab 0 5 = some [98, 98] := by
  have := nthW_of (dl := pD.to) (lab := pD.lab) (x := 0) (l := [98, 98]) (by decide) (by decide) (by decide +kernel)
  rwa [pD_bb] at this
end Go.Proofs.YtniamfaiamgncaaDoor
