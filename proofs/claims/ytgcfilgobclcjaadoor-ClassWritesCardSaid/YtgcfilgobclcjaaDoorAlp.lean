/- Texts of classes, put together: what is read, by plain lists. -/
import Derived.Test.YtgcfilgobclcjaaDoorWkc
namespace Go.Proofs.YtgcfilgobclcjaaDoor
open Go Go.RowKit
def prL (l : List UInt8) : Sum (Bool × Nat) (BitVec 256 × Nat) := cls unq (l.length + 1) 0 l 0
theorem prs_zero (s : ByteArray) : prs s 0 = prL s.data.toList := by
  have h : pos s 0 = 0 := by
    unfold pos
    split
    · omega
    · rfl
  unfold prs prL
  rw [h]
  rfl
theorem data_append (a b : ByteArray) : (a ++ b).data.toList = a.data.toList ++ b.data.toList := by
  rw [ByteArray.data_append, Array.toList_append]
/-- A set's spans, as they are spelt. -/
def inr (s : BitVec 256) : List UInt8 := (spn s).flatMap sps
theorem txt_inr (s : BitVec 256) : txt s = 91 :: (inr s ++ [93]) := rfl
theorem prL_not (a : BitVec 256) : ∃ m, prL (91 :: 94 :: (inr a ++ [93])) = .inr (~~~a, m) ∧ 0 < m := by
  have h := cls_hat (spn a) (spn_ok a) [93] (stp_end []) ((91 :: 94 :: (inr a ++ [93])).length - 1 + 1) 0 0 (by omega)
  rw [tls_end, unl_spn] at h
  have e : (91 :: 94 :: (inr a ++ [93])).length + 1 = (91 :: 94 :: (inr a ++ [93])).length - 1 + 1 + 1 := by simp only [List.length_cons]; omega
  rw [← e] at h
  exact ⟨_, h, by omega⟩
theorem unl_append (a b : BitVec 256) : unl (spn a ++ spn b) 0#256 = a ||| b := by
  apply BitVec.eq_of_getLsbD_eq
  intro i hi
  have h := unl_bit i (spn a ++ spn b) 0#256 (fun p hp => (List.mem_append.1 hp).elim (spn_ok a p) (spn_ok b p))
  have ha := unl_bit i (spn a) 0#256 (spn_ok a)
  have hb := unl_bit i (spn b) 0#256 (spn_ok b)
  rw [unl_spn] at ha hb
  rw [Bool.eq_iff_iff, h, BitVec.getLsbD_or, Bool.or_eq_true, ha, hb]
  simp only [BitVec.getLsbD_zero, Bool.false_eq_true, false_or, List.mem_append]
  constructor
  · rintro ⟨p, hp | hp, h⟩
    · exact .inl ⟨p, hp, h⟩
    · exact .inr ⟨p, hp, h⟩
  · rintro (⟨p, hp, h⟩ | ⟨p, hp, h⟩)
    · exact ⟨p, .inl hp, h⟩
    · exact ⟨p, .inr hp, h⟩
theorem prL_two (a b : BitVec 256) : ∃ m, prL (91 :: (inr a ++ (inr b ++ [93]))) = .inr (a ||| b, m) ∧ 0 < m := by
  have h := cls_sps (spn a ++ spn b) (fun p hp => (List.mem_append.1 hp).elim (spn_ok a p) (spn_ok b p)) [93] (stp_end []) ((91 :: (inr a ++ (inr b ++ [93]))).length - 1 + 1) 0 0 (by omega)
  rw [tls_end, unl_append, List.flatMap_append, List.append_assoc] at h
  have e : (91 :: (inr a ++ (inr b ++ [93]))).length + 1 = (91 :: (inr a ++ (inr b ++ [93]))).length - 1 + 1 + 1 := by simp only [List.length_cons]; omega
  rw [← e] at h
  exact ⟨_, h, by omega⟩
theorem and_full (x : BitVec 256) : x &&& ~~~0#256 = x := by
  apply BitVec.eq_of_getLsbD_eq
  intro i hi
  rw [BitVec.getLsbD_and, BitVec.getLsbD_not]
  simp [hi]
theorem txt_zero : txt 0#256 = [91, 93] := by decide +kernel
theorem prL_all (a b c : BitVec 256) : ∃ m, prL (91 :: (inr a ++ (45 :: 45 :: (txt b ++ (38 :: 38 :: (txt c ++ (45 :: 45 :: ([91, 93] ++ [93])))))))) = .inr ((a &&& ~~~b) &&& c, m) ∧ 0 < m := by
  obtain ⟨n, hn⟩ : ∃ n, (91 :: (inr a ++ (45 :: 45 :: (txt b ++ (38 :: 38 :: (txt c ++ (45 :: 45 :: ([91, 93] ++ [93])))))))).length + 1 = n + 2 + 1 + 1 + 1 + 1 + 1 := by
    refine ⟨(91 :: (inr a ++ (45 :: 45 :: (txt b ++ (38 :: 38 :: (txt c ++ (45 :: 45 :: ([91, 93] ++ [93])))))))).length - 6, ?_⟩
    simp only [List.length_cons, List.length_append, List.length_nil]
    omega
  have h := cls_sps (spn a) (spn_ok a) (45 :: 45 :: (txt b ++ (38 :: 38 :: (txt c ++ (45 :: 45 :: ([91, 93] ++ [93])))))) (stp_dash _) (n + 2 + 1 + 1 + 1 + 1) 0 0 (by omega)
  rw [tls_dash _ _ _ b (txt b) _ _ (cls_set b _ _ _ _ (by omega)), tls_amp _ _ _ c (txt c) _ _ (cls_set c _ _ _ _ (by omega)),
    tls_dash _ _ _ 0#256 [91, 93] _ _ (by have := cls_set 0#256 [93] (n + 1) 1 (0 + (1 + ((spn a).flatMap sps).length) + (2 + (txt b).length) + (2 + (txt c).length) + 2) (by omega); rw [txt_zero] at this; exact this), tls_end, unl_spn] at h
  rw [← hn, and_full] at h
  exact ⟨_, h, by omega⟩
theorem prL_none (a b : BitVec 256) : ∃ m, prL (91 :: 94 :: (inr a ++ (38 :: 38 :: ((91 :: 94 :: (inr b ++ [93])) ++ [93])))) = .inr (~~~(a ||| b), m) ∧ 0 < m := by
  obtain ⟨n, hn⟩ : ∃ n, (91 :: 94 :: (inr a ++ (38 :: 38 :: ((91 :: 94 :: (inr b ++ [93])) ++ [93])))).length + 1 = n + 1 + 1 + 1 + 1 := by
    refine ⟨(91 :: 94 :: (inr a ++ (38 :: 38 :: ((91 :: 94 :: (inr b ++ [93])) ++ [93])))).length - 3, ?_⟩
    simp only [List.length_cons, List.length_append, List.length_nil]
    omega
  have h := cls_hat (spn a) (spn_ok a) (38 :: 38 :: ((91 :: 94 :: (inr b ++ [93])) ++ [93])) (stp_amp _) (n + 1 + 1 + 1) 0 0 (by omega)
  have h2 := cls_hat (spn b) (spn_ok b) (93 :: [93]) (stp_end _) (n + 1) 1 (0 + (2 + ((spn a).flatMap sps).length) + 2) (by omega)
  rw [tls_end, unl_spn] at h2
  rw [tls_amp _ _ _ (~~~b) (91 :: 94 :: (inr b ++ [93])) [93] _ (by
    have e : (91 :: 94 :: (inr b ++ [93])) ++ [93] = 91 :: 94 :: (inr b ++ (93 :: [93])) := by simp
    rw [e]
    refine h2.trans ?_
    congr 2
    simp [inr]; omega), tls_end, unl_spn] at h
  rw [← hn, ← BitVec.not_or] at h
  exact ⟨_, h, by omega⟩
theorem parse_of (s : ByteArray) (l : List UInt8) (hl : s.data.toList = l) (hn : l.length ≤ 100000) (S : BitVec 256) (m : Nat) (h : prL l = .inr (S, m)) (es ed : Addr) (w : World) (hK : Kn w es ed) :
    Calls Tryd.prog 12 #[.string s, .int .i64 0] w fun e w' => e = .returned (.tuple #[sv S, .int .i64 m, .nilIface]) ∧ Ext w w' := by
  have hs : s.size = l.length := by rw [← hl, Array.length_toList]; rfl
  exact parse_is s 0 es ed (by omega) w hK S m (by rw [prs_zero, hl]; exact h)
theorem txt_len (s : BitVec 256) : 2 ≤ (txt s).length ∧ (txt s).length ≤ 3000 := by
  have h1 := flat_le9 (spn s)
  have h2 := spn_len s
  rw [txt_inr]
  unfold inr
  simp only [List.length_cons, List.length_append, List.length_nil]
  omega
end Go.Proofs.YtgcfilgobclcjaaDoor
