/- The one automaton of a behaviour: each of its states is come to by a word; it has no more states than another automaton of the behaviour (plain). -/
import Derived.Test.YtniamfaiamgncaaDoorChm
import Derived.Test.YtniamfaiamgncaaDoorDfa
namespace Go.Proofs.YtniamfaiamgncaaDoor
theorem runA_app (to : Nat → Nat → Nat) : ∀ (l l' : List Nat) (s : Nat), runA to s (l ++ l') = runA to (runA to s l) l'
  | [], _, _ => rfl
  | c :: l, l', s => runA_app to l l' (to s c)
theorem fnd_at (to : Nat → Nat → Nat) : ∀ (k i : Nat), i < fnd to k → i = 0 ∨ ∃ j, j < k ∧ to (j / 256) (j % 256) = i
  | 0, i, h => .inl (by rw [fnd] at h; omega)
  | k + 1, i, h => by
    rw [fnd] at h
    split at h
    · rename_i e
      by_cases q : i < fnd to k
      · rcases fnd_at to k i q with h0 | ⟨j, hj, e2⟩
        · exact .inl h0
        · exact .inr ⟨j, by omega, e2⟩
      · exact .inr ⟨k, by omega, by omega⟩
    · rcases fnd_at to k i h with h0 | ⟨j, hj, e2⟩
      · exact .inl h0
      · exact .inr ⟨j, by omega, e2⟩
theorem Canon.word {m : Dd} {f : List Nat → Int} (h : Canon m f) : ∀ (n i : Nat), i < n → i < m.nx.length → ∃ l : List Nat, (∀ c ∈ l, c < 256) ∧ runA m.to 0 l = i
  | 0, _, h0, _ => absurd h0 (by omega)
  | n + 1, i, h0, hi => by
    rcases fnd_at m.to _ i (h.found i hi) with rfl | ⟨j, hj, e⟩
    · exact ⟨[], by simp, rfl⟩
    · obtain ⟨l, h1, h2⟩ := Canon.word h n (j / 256) (by omega) (by omega)
      refine ⟨l ++ [j % 256], fun c hc => ?_, ?_⟩
      · rcases List.mem_append.1 hc with hc | hc
        · exact h1 c hc
        · rw [List.mem_singleton.1 hc]; exact Nat.mod_lt _ (by omega)
      · rw [runA_app, h2]; exact e
theorem runA_lt {d : Dd} (hd : d.Ok) : ∀ (l : List Nat) (s : Nat), s < d.nx.length → (∀ c ∈ l, c < 256) → runA d.to s l < d.nx.length
  | [], _, h, _ => h
  | c :: l, s, h, hl => runA_lt hd l _ (hd.to h (hl c (by simp))) (fun x hx => hl x (by simp [hx]))
theorem beh_run {d : Dd} (s : Nat) (l l' : List Nat) : d.beh (runA d.to s l) l' = d.beh s (l ++ l') := by
  show d.lab (runA d.to (runA d.to s l) l') = d.lab (runA d.to s (l ++ l'))
  rw [runA_app]
theorem beq_run {d m : Dd} {s t : Nat} (h : Beq (d.beh s) (m.beh t)) {l : List Nat} (hl : ∀ c ∈ l, c < 256) : Beq (d.beh (runA d.to s l)) (m.beh (runA m.to t l)) := fun l' hl' => by
  rw [beh_run, beh_run]
  exact h _ (fun c hc => by rcases List.mem_append.1 hc with hc | hc; exact hl c hc; exact hl' c hc)
theorem Canon.le {m d : Dd} (h : Canon m (d.beh 0)) (hd : d.Ok) : m.nx.length ≤ d.nx.length := by
  have hw : ∀ i, ∃ l : List Nat, i < m.nx.length → (∀ c ∈ l, c < 256) ∧ runA m.to 0 l = i := fun i => by
    by_cases q : i < m.nx.length
    · obtain ⟨l, h1, h2⟩ := h.word (i + 1) i (by omega) q
      exact ⟨l, fun _ => ⟨h1, h2⟩⟩
    · exact ⟨[], fun k => absurd k q⟩
  obtain ⟨W, hW⟩ := Classical.axiomOfChoice hw
  have key := nodup_lt d.nx.length ((List.range m.nx.length).map fun i => runA d.to 0 (W i)) ?_ ?_
  · simpa using key
  · refine List.pairwise_map.2 (List.Pairwise.imp_of_mem ?_ (List.nodup_range (n := m.nx.length)))
    intro i j hi hj hne e
    have hi := List.mem_range.1 hi
    have hj := List.mem_range.1 hj
    obtain ⟨a1, a2⟩ := hW i hi
    obtain ⟨b1, b2⟩ := hW j hj
    have q1 := beq_run (l := W i) h.start a1
    have q2 := beq_run (l := W j) h.start b1
    rw [a2] at q1
    rw [b2] at q2
    rw [e] at q1
    exact hne (h.apart i j hi hj (q1.trans q2.symm))
  · intro x hx
    obtain ⟨i, hi, rfl⟩ := List.mem_map.1 hx
    exact runA_lt hd _ _ hd.pos (hW i (List.mem_range.1 hi)).1
/-- It is the one of its own behaviour. -/
theorem Canon.self {m : Dd} {f : List Nat → Int} (h : Canon m f) : Canon m (m.beh 0) := ⟨h.ok, Beq.refl _, h.apart, h.num, h.found⟩
end Go.Proofs.YtniamfaiamgncaaDoor
