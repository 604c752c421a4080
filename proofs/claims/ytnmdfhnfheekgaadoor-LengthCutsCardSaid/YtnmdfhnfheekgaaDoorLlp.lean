/- Two cores, one behind the other, or one of them: which are cores; how long. -/
import Derived.Test.YtnmdfhnfheekgaaDoorWk8
namespace Go.Proofs.YtnmdfhnfheekgaaDoor
open Go Go.RowKit
mutual
theorem mb_mono : ∀ (x : Xp) (ar left k ar' d : Nat), mb x ar left = some k → ar' ≤ ar → ar ≤ 4096 → mb x ar' (left + d) = some (k + d)
  | .mk o p s t m n l, ar, left, k, ar', d, h, ha, h4 => by
    simp only [mb] at h ⊢
    split at h
    · cases h
    · rename_i hn
      have h1 : left ≠ 0 := fun e => hn (.inl e)
      have h2 : ar ≠ 4096 := fun e => hn (.inr (.inl e))
      have h3 : Fok (.mk o p s t m n l) := Decidable.byContradiction fun e => hn (.inr (.inr e))
      rw [if_neg (by rintro (e | e | e); omega; omega; exact e h3), show left + d - 1 = (left - 1) + d by omega]
      exact mbs_mono l (ar + 1) (left - 1) k (ar' + 1) d h (by omega) (by omega)
theorem mbs_mono : ∀ (l : List Xp) (ar left k ar' d : Nat), mbs l ar left = some k → ar' ≤ ar → ar ≤ 4096 → mbs l ar' (left + d) = some (k + d)
  | [], ar, left, k, ar', d, h, _, _ => by simp only [mbs, Option.some.injEq] at h ⊢; omega
  | x :: l, ar, left, k, ar', d, h, ha, h4 => by
    simp only [mbs] at h ⊢
    split at h
    · cases h
    · rename_i j hj
      rw [mb_mono x ar left j ar' d hj ha h4]
      exact mbs_mono l ar j k ar' d h ha h4
end
mutual
theorem mb_of : ∀ (x : Xp) (ar left : Nat), Good x → ar + nn x ≤ 4096 → nn x ≤ left → mb x ar left = some (left - nn x)
  | .mk o p s t m n l, ar, left, hg, ha, hl => by
    simp only [Good, nn] at hg ha hl
    simp only [mb, nn]
    rw [if_neg (by rintro (e | e | e); omega; omega; exact e hg.1), mbs_of l (ar + 1) (left - 1) hg.2 (by omega) (by omega)]
    congr 1; omega
theorem mbs_of : ∀ (l : List Xp) (ar left : Nat), Goods l → ar + nns l ≤ 4096 → nns l ≤ left → mbs l ar left = some (left - nns l)
  | [], ar, left, _, _, _ => by simp [mbs, nns]
  | x :: l, ar, left, hg, ha, hl => by
    simp only [Goods, nns] at hg ha hl
    simp only [mbs, nns]
    rw [mb_of x ar left hg.1 (by omega) (by omega)]
    have := mbs_of l ar (left - nn x) hg.2 (by omega) (by omega)
    simp only [this]
    congr 1; omega
end
theorem chk_of {x : Xp} (hg : Good x) (h : nn x ≤ 4096) : Chk x := by
  unfold Chk; rw [mb_of x 0 65536 hg (by omega) (by omega)]; rfl
def xcat (q : Int) (A B : Xp) : Xp := .mk q 0 0#256 .empty 0 0 [A, B]
def xstar (A : Xp) : Xp := .mk 7 0 0#256 .empty 0 (-1) [A]
theorem fok_cat (q : Int) (A B : Xp) (hq : q = 5 ∨ q = 6) : Fok (xcat q A B) := ⟨rfl, rfl, .inr (.inr (.inl ⟨hq, rfl, rfl, rfl, by simp [xcat, Xp.args]⟩))⟩
theorem fok_star (A : Xp) : Fok (xstar A) := ⟨rfl, rfl, .inr (.inr (.inr ⟨rfl, rfl, rfl, .inl ⟨rfl, .inl rfl⟩⟩))⟩
theorem chk_cat {q : Int} {A B : Xp} (h : Chk (xcat q A B)) : Chk A ∧ Chk B := by
  obtain ⟨k, hk⟩ := Option.isSome_iff_exists.1 h
  rw [mb_eq] at hk
  split at hk
  · cases hk
  · have hk' : mbs [A, B] 1 65535 = some k := hk
    simp only [mbs] at hk'
    split at hk'
    · cases hk'
    · rename_i j hj
      split at hk'
      · cases hk'
      · rename_i j2 hj2
        have h1 := mb_mono A 1 65535 j 0 1 hj (by omega) (by omega)
        have h2 := mb_le A 1 65535 j hj
        have h3 := mb_mono B 1 j j2 0 (65536 - j) hj2 (by omega) (by omega)
        rw [show j + (65536 - j) = 65536 by omega] at h3
        exact ⟨by unfold Chk; rw [h1]; rfl, by unfold Chk; rw [h3]; rfl⟩
theorem chk_star {A : Xp} (h : Chk (xstar A)) : Chk A := by
  obtain ⟨k, hk⟩ := Option.isSome_iff_exists.1 h
  rw [mb_eq] at hk
  split at hk
  · cases hk
  · have hk' : mbs [A] 1 65535 = some k := hk
    simp only [mbs] at hk'
    split at hk'
    · cases hk'
    · rename_i j hj
      have h1 := mb_mono A 1 65535 j 0 1 hj (by omega) (by omega)
      unfold Chk; rw [h1]; rfl
theorem chk_small {A B : Xp} (ha : Chk A) (hb : Chk B) (hn : nn A + nn B ≤ 4000) : Chk (xcat 5 A B) ∧ Chk (xcat 6 A B) ∧ Chk (xstar A) := by
  have h1 := (chk_good ha).1
  have h2 := (chk_good hb).1
  refine ⟨chk_of ?_ ?_, chk_of ?_ ?_, chk_of ?_ ?_⟩
  · exact (good_eq _).2 ⟨fok_cat 5 A B (.inl rfl), by show Goods [A, B]; simp only [Goods]; exact ⟨h1, h2, trivial⟩⟩
  · simp only [xcat, nn, nns]; omega
  · exact (good_eq _).2 ⟨fok_cat 6 A B (.inr rfl), by show Goods [A, B]; simp only [Goods]; exact ⟨h1, h2, trivial⟩⟩
  · simp only [xcat, nn, nns]; omega
  · exact (good_eq _).2 ⟨fok_star A, by show Goods [A]; simp only [Goods]; exact ⟨h1, trivial⟩⟩
  · simp only [xstar, nn, nns]; omega
theorem wo_cat (A B : Xp) : wo (xcat 5 A B) = (wo A).join (wo B) := by
  rw [wo_eq]
  show wcomb 5 0#256 0 0 [wo A, wo B] = _
  unfold wcomb; rw [if_neg (by decide : ¬ (5 : Int) = 2), if_pos rfl]
  show ((Wv.bounded 0 0).join (wo A)).join (wo B) = _
  have : (Wv.bounded 0 0).join (wo A) = wo A := by cases wo A <;> simp [Wv.join]
  rw [this]
theorem wo_alt (A B : Xp) : wo (xcat 6 A B) = (wo A).alt (wo B) := by
  rw [wo_eq]
  show wcomb 6 0#256 0 0 [wo A, wo B] = _
  unfold wcomb; rw [if_neg (by decide : ¬ (6 : Int) = 2), if_neg (by decide : ¬ (6 : Int) = 5), if_pos rfl]
  rfl
theorem wo_star (A : Xp) : wo (xstar A) = (wo A).rep 0 (-1) := by
  rw [wo_eq]
  show wcomb 7 0#256 0 (-1) [wo A] = _
  unfold wcomb; rw [if_neg (by decide : ¬ (7 : Int) = 2), if_neg (by decide : ¬ (7 : Int) = 5), if_neg (by decide : ¬ (7 : Int) = 6), if_pos rfl]
  rfl
set_option maxRecDepth 20000 in
/-- Two lengths that are one. -/
theorem len_same (b : Bool) (l m : Int) (w : World) : (Op.equalIn 10000 31 (.agg #[.bool b, .int .i64 l, .int .i64 m]) (.agg #[.bool b, .int .i64 l, .int .i64 m])).run Tryd.prog w = .ok true w := by
  have hS : Tryd.prog.underlying 31 = some (.struct (Tryd.prog.fieldsOf 31)) := by kernel_rfl
  have hp : Tryd.prog.stoodInHeld 31 = false := by kernel_rfl
  have p0 : ∀ w, (part 4 #[.bool b, .int .i64 l, .int .i64 m] 0).run Tryd.prog w = .ok (.bool b) w := fun _ => by kernel_rfl
  have p1 : ∀ w, (part 3 #[.bool b, .int .i64 l, .int .i64 m] 1).run Tryd.prog w = .ok (.int .i64 l) w := fun _ => by kernel_rfl
  have p2 : ∀ w, (part 3 #[.bool b, .int .i64 l, .int .i64 m] 2).run Tryd.prog w = .ok (.int .i64 m) w := fun _ => by kernel_rfl
  have eI : ∀ x w, (Op.equalIn 9999 3 (.int .i64 x) (.int .i64 x)).run Tryd.prog w = .ok true w := fun x w => by rw [run_equalIn_int w 9998 _ _ .i64 _ _ Tryd.underlying3]; simp
  have eB : ∀ x w, (Op.equalIn 9999 4 (.bool x) (.bool x)).run Tryd.prog w = .ok true w := fun x w => by cases x <;> kernel_rfl
  rw [show (10000 : Nat) = 9999 + 1 from rfl, run_equalIn_agg w 9999 _ _ _ hS hp]
  simp only [Program.fieldsOf, Tryd.underlying31, Op.eqFields, Sem.run_bind, Sem.run_ite, p0, p1, p2, Result.andThen_ok, eI, eB]
  simp
theorem chk56 (A B : Xp) : Chk (xcat 5 A B) ↔ Chk (xcat 6 A B) := by
  unfold Chk
  rw [mb_eq, mb_eq, if_neg (by rintro (h | h | h); exact absurd h (by decide); exact absurd h (by decide); exact h (fok_cat 5 A B (.inl rfl))), if_neg (by rintro (h | h | h); exact absurd h (by decide); exact absurd h (by decide); exact h (fok_cat 6 A B (.inr rfl)))]
  rfl
theorem lnv_of {x : Xp} (h : Chk x) : lnv x = (wo x).lv := if_pos h
theorem lne_of {x : Xp} (h : Chk x) (aA : Addr) : lne x aA = .nilIface := if_pos h
theorem lne_not {x : Xp} (h : ¬ Chk x) (aA : Addr) : lne x aA = errAt aA := if_neg h
theorem lv_inj {n n' : Bool} {l m l' m' : Int} (h : Value.agg #[.bool n, .int .i64 l, .int .i64 m] = .agg #[.bool n', .int .i64 l', .int .i64 m']) : n' = n ∧ l' = l ∧ m' = m := by
  simp at h
  exact ⟨h.1.symm, h.2.1.symm, h.2.2.symm⟩
end Go.Proofs.YtnmdfhnfheekgaaDoor
