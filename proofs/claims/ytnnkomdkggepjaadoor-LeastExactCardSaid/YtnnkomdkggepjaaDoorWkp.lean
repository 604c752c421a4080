/- What wakes layer 12: two states that nothing tells apart (plain). -/
import Derived.Test.YtnnkomdkggepjaaDoorCls
namespace Go.Proofs.YtnnkomdkggepjaaDoor
theorem rep_at {c : Nat} (y : Int) (h : c < 256) : (List.replicate 256 y).getD c 0 = y := by
  rw [List.getD_eq_getElem?_getD, List.getElem?_replicate, if_pos h]; rfl
def wD : Dd := ⟨[List.replicate 256 1, List.replicate 256 2, List.replicate 256 1], [-1, 0, 0]⟩
def wM : Dd := ⟨[List.replicate 256 1, List.replicate 256 1], [-1, 0]⟩
theorem wD_ok : wD.Ok := okB_ok.1 (by decide +kernel)
theorem wM_ok : wM.Ok := okB_ok.1 (by decide +kernel)
theorem wD_to {c : Nat} (h : c < 256) : wD.to 0 c = 1 ∧ wD.to 1 c = 2 ∧ wD.to 2 c = 1 := by
  refine ⟨?_, ?_, ?_⟩ <;> (unfold Dd.to Dd.ent wD; first | (show ((List.replicate 256 (1 : Int)).getD c 0).toNat = 1; rw [rep_at _ h]; rfl) | (show ((List.replicate 256 (2 : Int)).getD c 0).toNat = 2; rw [rep_at _ h]; rfl))
theorem wM_to {c : Nat} (h : c < 256) : wM.to 0 c = 1 ∧ wM.to 1 c = 1 := by
  refine ⟨?_, ?_⟩ <;> (unfold Dd.to Dd.ent wM; show ((List.replicate 256 (1 : Int)).getD c 0).toNat = 1; rw [rep_at _ h]; rfl)
theorem wD_same : Beq (wD.beh 1) (wD.beh 2) :=
  beq_of_cong (fun s t => (s = 1 ∨ s = 2) ∧ (t = 1 ∨ t = 2)) (fun s t q => by rcases q with ⟨rfl | rfl, rfl | rfl⟩ <;> rfl) (fun s t c q hc => by
    obtain ⟨_, h1, h2⟩ := wD_to hc
    rcases q with ⟨rfl | rfl, rfl | rfl⟩ <;> simp [h1, h2]) 1 2 ⟨.inl rfl, .inr rfl⟩
theorem wD_cls : ClsOk wD.nx.length (fun i k => Beq (wD.beh i) (wD.beh k)) [0, 1, 1] := by
  have no : ∀ i k, wD.lab i ≠ wD.lab k → ¬ Beq (wD.beh i) (wD.beh k) := fun i k h q => h (q [] (fun _ x => nomatch x))
  refine ⟨rfl, ?_, fun i k hi hk => ?_⟩
  · intro i h
    have h : i < 3 := h
    rcases i with _ | _ | _ | i
    · exact ⟨by simp, fun m h0 hm => by simp at hm; omega⟩
    · exact ⟨by simp, fun m h0 hm => by simp at hm ⊢; omega⟩
    · exact ⟨by simp, fun m h0 hm => by simp at hm ⊢; omega⟩
    · omega
  · have hi : i < 3 := hi
    have hk : k < 3 := hk
    have h01 := no 0 1 (by decide)
    have h02 := no 0 2 (by decide)
    have h10 := no 1 0 (by decide)
    have h20 := no 2 0 (by decide)
    rcases i with _ | _ | _ | i
    · rcases k with _ | _ | _ | k
      · simp [Beq.refl]
      · simp [h01]
      · simp [h02]
      · omega
    · rcases k with _ | _ | _ | k
      · simp [h10]
      · simp [Beq.refl]
      · simp [wD_same]
      · omega
    · rcases k with _ | _ | _ | k
      · simp [h20]
      · simp [wD_same.symm]
      · simp [Beq.refl]
      · omega
    · omega
theorem wM_canon : Canon wM (wD.beh 0) := by
  refine ⟨wM_ok, ?_, fun i j hi hj q => ?_, fun k hk => ?_, fun i hi => ?_⟩
  · exact beq_of_cong (fun s t => (s = 0 ∧ t = 0) ∨ (s = 1 ∧ (t = 1 ∨ t = 2))) (fun s t q => by rcases q with ⟨rfl, rfl⟩ | ⟨rfl, rfl | rfl⟩ <;> rfl) (fun s t c q hc => by
      obtain ⟨h0, h1, h2⟩ := wD_to hc
      obtain ⟨m0, m1⟩ := wM_to hc
      rcases q with ⟨rfl, rfl⟩ | ⟨rfl, rfl | rfl⟩ <;> simp [h0, h1, h2, m0, m1]) 0 0 (.inl ⟨rfl, rfl⟩)
  · have hi : i < 2 := hi
    have hj : j < 2 := hj
    have e : wM.lab i = wM.lab j := q [] (fun _ x => nomatch x)
    have n1 : wM.lab 0 ≠ wM.lab 1 := by decide
    rcases i with _ | _ | i
    · rcases j with _ | _ | j
      · rfl
      · exact absurd e n1
      · omega
    · rcases j with _ | _ | j
      · exact absurd e.symm n1
      · rfl
      · omega
    · omega
  · have hk : k < 512 := hk
    have hc : k % 256 < 256 := Nat.mod_lt _ (by omega)
    have h2 : k / 256 < 2 := by omega
    obtain ⟨m0, m1⟩ := wM_to hc
    have hf := fnd_pos wM.to k
    generalize k / 256 = i at *
    rcases i with _ | _ | i
    · rw [m0]; exact hf
    · rw [m1]; exact hf
    · omega
  · have hi : i < 2 := hi
    rcases i with _ | _ | i
    · exact fnd_pos _ _
    · have h1 : 2 ≤ fnd wM.to 1 := by decide +kernel
      exact Nat.lt_of_lt_of_le h1 (fnd_mono wM.to (show 1 ≤ 256 * 1 by omega))
    · omega
end Go.Proofs.YtnnkomdkggepjaaDoor
