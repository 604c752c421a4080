/- Numbers as they are found: of a list; of the states that an automaton reaches (plain). -/
import Derived.Test.YtniamfaiamgncaaDoorDfa
import Derived.Test.YtniamfaiamgncaaDoorNbr
namespace Go.Proofs.YtniamfaiamgncaaDoor
theorem nad_ext (K : List Int) (x : Int) : ∃ R, nad K x = K ++ R := by
  unfold nad; split
  · exact ⟨[], by simp⟩
  · exact ⟨[x], rfl⟩
theorem nad_mem (K : List Int) (x y : Int) : y ∈ nad K x ↔ y ∈ K ∨ y = x := by
  unfold nad; split
  · rename_i h; exact ⟨.inl, fun q => by rcases q with q | rfl; exact q; exact h⟩
  · simp
theorem nad_nodup {K : List Int} (h : K.Nodup) (x : Int) : (nad K x).Nodup := by
  unfold nad; split
  · exact h
  · rename_i q
    rw [List.nodup_append]
    exact ⟨h, by simp, fun a ha b hb => by rw [List.mem_singleton.1 hb]; exact fun e => q (e ▸ ha)⟩
theorem nums_ext : ∀ (L K : List Int), ∃ R, L.foldl nad K = K ++ R
  | [], K => ⟨[], by simp⟩
  | x :: L, K => by
    obtain ⟨R, h⟩ := nad_ext K x
    obtain ⟨R', h'⟩ := nums_ext L (nad K x)
    exact ⟨R ++ R', by rw [List.foldl_cons, h', h, List.append_assoc]⟩
theorem nums_mem : ∀ (L K : List Int) (y : Int), y ∈ L.foldl nad K ↔ y ∈ K ∨ y ∈ L
  | [], K, y => by simp
  | x :: L, K, y => by
    rw [List.foldl_cons, nums_mem L, nad_mem, List.mem_cons, or_assoc]
theorem nums_nodup : ∀ (L K : List Int), K.Nodup → (L.foldl nad K).Nodup
  | [], _, h => h
  | x :: L, _, h => nums_nodup L _ (nad_nodup h x)
theorem idx_ext {K R : List Int} {x : Int} (h : x ∈ K) : (K ++ R).idxOf x = K.idxOf x := by rw [List.idxOf_append, if_pos h]
theorem idx_get {K : List Int} (h : K.Nodup) {i : Nat} (hi : i < K.length) : K.idxOf K[i] = i := by
  have h1 : K.idxOf K[i] < K.length := List.idxOf_lt_length_iff.2 (List.getElem_mem hi)
  have h2 : K[K.idxOf K[i]] = K[i] := List.getElem_idxOf h1
  rcases Nat.lt_trichotomy (K.idxOf K[i]) i with q | q | q
  · exact absurd h2 (List.pairwise_iff_getElem.1 h _ _ h1 hi q)
  · exact q
  · exact absurd h2.symm (List.pairwise_iff_getElem.1 h _ _ hi h1 q)
theorem idx_inj {K : List Int} {x y : Int} (hx : x ∈ K) (h : K.idxOf x = K.idxOf y) : x = y := by
  have h1 : K.idxOf x < K.length := List.idxOf_lt_length_iff.2 hx
  have h2 : K[K.idxOf x] = x := List.getElem_idxOf h1
  have h1' : K.idxOf y < K.length := by rw [← h]; exact h1
  have h3 : K[K.idxOf y] = y := List.getElem_idxOf h1'
  simp only [h] at h2
  exact h2.symm.trans h3
/-- A list, by the numbers of its values. -/
def ren (L : List Int) : List Int := L.map fun x => ((L.foldl nad []).idxOf x : Int)
theorem ren_take (L : List Int) {k : Nat} (hk : k < L.length) : (nad ((L.take k).foldl nad []) L[k]).idxOf L[k] = (L.foldl nad []).idxOf L[k] := by
  have e : L.foldl nad [] = (L.drop (k + 1)).foldl nad (nad ((L.take k).foldl nad []) L[k]) := by
    rw [show nad ((L.take k).foldl nad []) L[k] = (L.take (k + 1)).foldl nad [] by rw [List.take_succ_eq_append_getElem hk, List.foldl_append]; rfl, ← List.foldl_append, List.take_append_drop]
  obtain ⟨R, h⟩ := nums_ext (L.drop (k + 1)) (nad ((L.take k).foldl nad []) L[k])
  rw [e, h, idx_ext ((nad_mem _ _ _).2 (.inr rfl))]
theorem ren_cls {n : Nat} {E : Nat → Nat → Prop} {L : List Int} (hl : L.length = n) (h : ∀ i k, i < n → k < n → (L.getD i 0 = L.getD k 0 ↔ E i k)) : ClsOk n E (ren L) := by
  have hnd := nums_nodup L [] List.nodup_nil
  have hin : ∀ x ∈ L, x ∈ L.foldl nad [] := fun x hx => (nums_mem L [] x).2 (.inr hx)
  refine ⟨by simp [ren, hl], fun i hi => ?_, fun i k hi hk => ?_⟩
  · have hi' : i < L.length := by simpa [ren] using hi
    have e0 : (ren L)[i] = ((L.foldl nad []).idxOf L[i] : Int) := by simp [ren]
    rw [e0]
    refine ⟨by omega, fun m h0 hm => ?_⟩
    obtain ⟨m, rfl⟩ := Int.eq_ofNat_of_zero_le h0
    have hm : m < (L.foldl nad []).idxOf L[i] := by omega
    rw [← ren_take L hi'] at hm
    have hmK : m < ((L.take i).foldl nad []).length := by
      by_cases q : L[i] ∈ (L.take i).foldl nad []
      · rw [nad_in q] at hm
        have := List.idxOf_lt_length_iff.2 q
        omega
      · rw [nad_out q, idx_out q] at hm
        exact hm
    have e : L.foldl nad [] = (L.drop i).foldl nad ((L.take i).foldl nad []) := by rw [← List.foldl_append, List.take_append_drop]
    obtain ⟨R, hR⟩ := nums_ext (L.drop i) ((L.take i).foldl nad [])
    have hy := (nums_mem (L.take i) [] _).1 (List.getElem_mem hmK)
    rcases hy with hy | hy
    · cases hy
    obtain ⟨j, hj, ej⟩ := List.getElem_of_mem hy
    have hj' := hj
    rw [List.length_take] at hj'
    have hji : j < i := by omega
    refine List.mem_iff_getElem.2 ⟨j, by simp [ren]; omega, ?_⟩
    rw [List.getElem_take]
    rw [List.getElem_take] at ej
    have e1 : (ren L)[j]'(by simp [ren]; omega) = ((L.foldl nad []).idxOf (L[j]'(by omega)) : Int) := by simp [ren]
    rw [e1, ej, e, hR, idx_ext (List.getElem_mem hmK), idx_get (nums_nodup _ _ List.nodup_nil)]
  · have hi' : i < (ren L).length := by simp [ren]; omega
    have hk' : k < (ren L).length := by simp [ren]; omega
    rw [getD_get hi', getD_get hk', ← h i k hi hk, getD_get (by omega), getD_get (by omega)]
    simp only [ren, List.getElem_map]
    constructor
    · intro q
      exact idx_inj (hin _ (List.getElem_mem _)) (by omega)
    · intro q; rw [q]
/-- States as they are found, each class once. -/
def fad (cl : Nat → Int) (F : List Nat) (t : Nat) : List Nat := if cl t ∈ F.map cl then F else F ++ [t]
def bfsF (to : Nat → Nat → Nat) (cl : Nat → Int) : Nat → List Nat
  | 0 => [0]
  | k + 1 => fad cl (bfsF to cl k) (to ((bfsF to cl k).getD (k / 256) 0) (k % 256))
/-- The number at a place of the rows. -/
def bfsE (to : Nat → Nat → Nat) (cl : Nat → Int) (k : Nat) : Int := ((nad ((bfsF to cl k).map cl) (cl (to ((bfsF to cl k).getD (k / 256) 0) (k % 256)))).idxOf (cl (to ((bfsF to cl k).getD (k / 256) 0) (k % 256))) : Nat)
def bfsR (to : Nat → Nat → Nat) (cl : Nat → Int) (i m : Nat) : List Int := (List.range m).map fun c => bfsE to cl (256 * i + c)
def bfsD (to : Nat → Nat → Nat) (cl : Nat → Int) (lab : Nat → Int) (N : Nat) : Dd :=
  ⟨(List.range N).map fun i => bfsR to cl i 256, (List.range N).map fun i => lab ((bfsF to cl (256 * i)).getD i 0)⟩
theorem fad_map (cl : Nat → Int) (F : List Nat) (t : Nat) : (fad cl F t).map cl = nad (F.map cl) (cl t) := by
  unfold fad nad; split <;> simp
theorem fad_ext (cl : Nat → Int) (F : List Nat) (t : Nat) : ∃ R, fad cl F t = F ++ R := by
  unfold fad; split
  · exact ⟨[], by simp⟩
  · exact ⟨[t], rfl⟩
section
variable {to : Nat → Nat → Nat} {cl : Nat → Int} {lab : Nat → Int} {S : Nat → Prop} {n : Nat}
theorem bfs_ext (j d : Nat) : ∃ R, bfsF to cl (j + d) = bfsF to cl j ++ R := by
  induction d with
  | zero => exact ⟨[], by simp⟩
  | succ d ih =>
    obtain ⟨R, h⟩ := ih
    obtain ⟨R', h'⟩ := fad_ext cl (bfsF to cl (j + d)) (to ((bfsF to cl (j + d)).getD ((j + d) / 256) 0) ((j + d) % 256))
    exact ⟨R ++ R', by rw [show j + (d + 1) = (j + d) + 1 by omega, bfsF, h', h, List.append_assoc]⟩
theorem bfs_len_mono {j k : Nat} (h : j ≤ k) : (bfsF to cl j).length ≤ (bfsF to cl k).length := by
  obtain ⟨R, e⟩ := bfs_ext (to := to) (cl := cl) j (k - j)
  rw [show j + (k - j) = k by omega] at e
  rw [e, List.length_append]; omega
theorem bfs_get {j k i : Nat} (h : j ≤ k) (hi : i < (bfsF to cl j).length) : (bfsF to cl k).getD i 0 = (bfsF to cl j).getD i 0 := by
  obtain ⟨R, e⟩ := bfs_ext (to := to) (cl := cl) j (k - j)
  rw [show j + (k - j) = k by omega] at e
  rw [e, List.getD_eq_getElem?_getD, List.getElem?_append_left hi, ← List.getD_eq_getElem?_getD]
theorem bfs_nodup (k : Nat) : ((bfsF to cl k).map cl).Nodup := by
  induction k with
  | zero => simp [bfsF]
  | succ k ih => rw [bfsF, fad_map]; exact nad_nodup ih _
theorem bfs_in (h0 : S 0) (hS : ∀ s c, S s → c < 256 → S (to s c)) (k : Nat) : ∀ x ∈ bfsF to cl k, S x := by
  induction k with
  | zero => intro x hx; rw [bfsF, List.mem_singleton] at hx; rw [hx]; exact h0
  | succ k ih =>
    intro x hx
    rw [bfsF, fad] at hx
    split at hx
    · exact ih x hx
    · rcases List.mem_append.1 hx with hx | hx
      · exact ih x hx
      · rw [List.mem_singleton] at hx
        rw [hx]
        refine hS _ _ ?_ (Nat.mod_lt _ (by omega))
        rw [List.getD_eq_getElem?_getD]
        cases e : (bfsF to cl k)[k / 256]? with
        | none => exact h0
        | some y => exact ih y (List.mem_of_getElem? e)
theorem bfs_le (h0 : S 0) (hS : ∀ s c, S s → c < 256 → S (to s c)) (hn : ∀ s, S s → s < n) (k : Nat) : (bfsF to cl k).length ≤ n := by
  have h1 := bfs_nodup (to := to) (cl := cl) k
  refine nodup_lt n _ ?_ (fun x hx => hn x (bfs_in h0 hS k x hx))
  rw [List.Nodup, List.pairwise_map] at h1
  exact h1.imp fun hne e => hne (by rw [e])
theorem bfsD_to {N i c : Nat} (hi : i < N) (hc : c < 256) : (bfsD to cl lab N).ent i c = bfsE to cl (256 * i + c) := by
  unfold bfsD bfsR Dd.ent
  simp only
  rw [List.getD_eq_getElem?_getD (l := (List.range N).map _), List.getElem?_map, List.getElem?_range hi]
  simp only [Option.map_some, Option.getD_some]
  rw [List.getD_eq_getElem?_getD, List.getElem?_map, List.getElem?_range hc]
  rfl
theorem bfsD_canon (h0 : S 0) (hS : ∀ s c, S s → c < 256 → S (to s c)) (hn : ∀ s, S s → s < n) (hn6 : n ≤ 600) (hlab : ∀ s, S s → -1 ≤ lab s ∧ lab s < 200)
    (hE : ∀ s t, S s → S t → (cl s = cl t ↔ Beq (behA to lab s) (behA to lab t))) {N : Nat} (hN : (bfsF to cl (256 * N)).length = N) (hlt : ∀ i, i < N → i < (bfsF to cl (256 * i)).length) :
    Canon (bfsD to cl lab N) (behA to lab 0) := by
  have hpos : 0 < N := by
    rcases Nat.eq_zero_or_pos N with e | e
    · subst e; simp [bfsF] at hN
    · exact e
  obtain ⟨g, hg⟩ : ∃ g : Nat → Nat, ∀ i, g i = (bfsF to cl (256 * N)).getD i 0 := ⟨_, fun _ => rfl⟩
  have hgS : ∀ i, i < N → S (g i) := fun i hi => by
    rw [hg, getD_get (by omega)]; exact bfs_in h0 hS _ _ (List.getElem_mem _)
  have hgi : ∀ i k, i < N → 256 * i ≤ k → k ≤ 256 * N → (bfsF to cl k).getD i 0 = g i := fun i k hi h1 h2 => by
    rw [hg, bfs_get h2 (Nat.lt_of_lt_of_le (hlt i hi) (bfs_len_mono h1))]
  have hcl : ∀ i j, i < N → j < N → cl (g i) = cl (g j) → i = j := fun i j hi hj e => by
    have nd := bfs_nodup (to := to) (cl := cl) (256 * N)
    have e1 : ∀ i (hi : i < N), ((bfsF to cl (256 * N)).map cl)[i]'(by simp; omega) = cl (g i) := fun i hi => by rw [List.getElem_map, hg, getD_get (by omega)]
    rw [← e1 i hi, ← e1 j hj] at e
    rcases Nat.lt_trichotomy i j with q | q | q
    · exact absurd e (List.pairwise_iff_getElem.1 nd i j _ _ q)
    · exact q
    · exact absurd e.symm (List.pairwise_iff_getElem.1 nd j i _ _ q)
  -- each place of a row
  have hent : ∀ k, k < 256 * N → ∃ j, j < N ∧ (bfsD to cl lab N).to (k / 256) (k % 256) = j ∧ (bfsD to cl lab N).ent (k / 256) (k % 256) = (j : Int) ∧ cl (g j) = cl (to (g (k / 256)) (k % 256)) ∧ j ≤ (bfsF to cl k).length ∧
      (bfsF to cl (k + 1)).length = if j = (bfsF to cl k).length then (bfsF to cl k).length + 1 else (bfsF to cl k).length := fun k hk => by
    have hi : k / 256 < N := by omega
    have hc : k % 256 < 256 := Nat.mod_lt _ (by omega)
    have e1 : (bfsD to cl lab N).ent (k / 256) (k % 256) = bfsE to cl k := by rw [bfsD_to hi hc, show 256 * (k / 256) + k % 256 = k by omega]
    have e2 : (bfsF to cl k).getD (k / 256) 0 = g (k / 256) := hgi _ _ hi (by omega) (by omega)
    have e3 : (bfsF to cl (k + 1)) = fad cl (bfsF to cl k) (to (g (k / 256)) (k % 256)) := by rw [bfsF, e2]
    have e4 : (bfsF to cl (k + 1)).map cl = nad ((bfsF to cl k).map cl) (cl (to (g (k / 256)) (k % 256))) := by rw [e3, fad_map]
    have hm : cl (to (g (k / 256)) (k % 256)) ∈ (bfsF to cl (k + 1)).map cl := by rw [e4, nad_mem]; exact .inr rfl
    obtain ⟨j, hj⟩ : ∃ j, ((bfsF to cl (k + 1)).map cl).idxOf (cl (to (g (k / 256)) (k % 256))) = j := ⟨_, rfl⟩
    have hj1 : j < ((bfsF to cl (k + 1)).map cl).length := by rw [← hj]; exact List.idxOf_lt_length_iff.2 hm
    have hj2 : ((bfsF to cl (k + 1)).map cl)[j] = cl (to (g (k / 256)) (k % 256)) := by
      have := List.getElem_idxOf (xs := (bfsF to cl (k + 1)).map cl) (x := cl (to (g (k / 256)) (k % 256))) (by rw [hj]; exact hj1)
      simpa only [hj] using this
    have hj3 : j < (bfsF to cl (k + 1)).length := by simpa using hj1
    have hjN : j < N := by have := bfs_len_mono (to := to) (cl := cl) (show k + 1 ≤ 256 * N by omega); omega
    have e5 : bfsE to cl k = (j : Int) := by unfold bfsE; rw [e2, ← e4, hj]
    refine ⟨j, hjN, by unfold Dd.to; rw [e1, e5]; rfl, by rw [e1, e5], ?_, ?_, ?_⟩
    · rw [← hj2, List.getElem_map, hg, bfs_get (show k + 1 ≤ 256 * N by omega) hj3, getD_get hj3]
    · rw [e3] at hj3
      unfold fad at hj3
      split at hj3
      · omega
      · simp at hj3; omega
    · rw [e3]
      rw [e4] at hj
      unfold fad
      split
      · rename_i q
        rw [nad_in q] at hj
        have := List.idxOf_lt_length_iff.2 q
        rw [hj, List.length_map] at this
        rw [if_neg (by omega)]
      · rename_i q
        rw [nad_out q, idx_out q, List.length_map] at hj
        rw [if_pos hj.symm]
        simp
  have hto : ∀ i c, i < N → c < 256 → ∃ j, j < N ∧ (bfsD to cl lab N).to i c = j ∧ (bfsD to cl lab N).ent i c = (j : Int) ∧ cl (g j) = cl (to (g i) c) := fun i c hi hc => by
    obtain ⟨j, h1, h2, h3, h4, _⟩ := hent (256 * i + c) (by omega)
    rw [show (256 * i + c) / 256 = i by omega, show (256 * i + c) % 256 = c by omega] at h2 h3 h4
    exact ⟨j, h1, h2, h3, h4⟩
  have hl : (bfsD to cl lab N).nx.length = N := by simp [bfsD]
  have hla : ∀ i, i < N → (bfsD to cl lab N).lab i = lab (g i) := fun i hi => by
    unfold bfsD Dd.lab
    simp only
    rw [List.getD_eq_getElem?_getD, List.getElem?_map, List.getElem?_range hi]
    simp only [Option.map_some, Option.getD_some]
    rw [hgi i (256 * i) hi (Nat.le_refl _) (by omega)]
  have hbeh : ∀ i, i < N → Beq ((bfsD to cl lab N).beh i) (behA to lab (g i)) := fun i hi => by
    refine beq_of_cong (fun i s => i < N ∧ S s ∧ Beq (behA to lab (g i)) (behA to lab s)) (fun i s q => ?_) (fun i s c q hc => ?_) i (g i) ⟨hi, hgS i hi, Beq.refl _⟩
    · rw [hla i q.1]; exact q.2.2.lab
    · obtain ⟨j, h1, h2, _, h4⟩ := hto i c q.1 hc
      rw [h2]
      exact ⟨h1, hS _ _ q.2.1 hc, ((hE _ _ (hgS j h1) (hS _ _ (hgS i q.1) hc)).1 h4).trans (q.2.2.step hc)⟩
  have hfnd : ∀ k, k ≤ 256 * N → fnd (bfsD to cl lab N).to k = (bfsF to cl k).length := by
    intro k
    induction k with
    | zero => intro _; rfl
    | succ k ih =>
      intro hk
      obtain ⟨j, h1, h2, h3, h4, h5, h6⟩ := hent k (by omega)
      rw [fnd, ih (by omega), h2, h6]
  have hg0 : g 0 = 0 := by rw [← hgi 0 0 hpos (Nat.le_refl _) (Nat.zero_le _)]; rfl
  refine ⟨⟨by omega, ?_, by simp [bfsD], fun s hs => ?_, fun s c hs hc => ?_, fun s hs => ?_⟩, ?_, fun i j hi hj q => ?_, fun k hk => ?_, fun i hi => ?_⟩
  · rw [hl, ← hN]; exact Nat.le_trans (bfs_le h0 hS hn _) hn6
  · rw [hl] at hs
    unfold bfsD
    simp only
    rw [List.getD_eq_getElem?_getD, List.getElem?_map, List.getElem?_range hs]
    simp [bfsR]
  · rw [hl] at hs ⊢
    obtain ⟨j, h1, h2, h3, _⟩ := hto s c hs hc
    rw [h3]; omega
  · rw [hl] at hs
    rw [hla s hs]; exact hlab _ (hgS s hs)
  · have := hbeh 0 hpos
    rw [hg0] at this
    exact this
  · rw [hl] at hi hj
    exact hcl i j hi hj ((hE _ _ (hgS i hi) (hgS j hj)).2 ((hbeh i hi).symm.trans (q.trans (hbeh j hj))))
  · rw [hl] at hk
    obtain ⟨j, h1, h2, h3, h4, h5, h6⟩ := hent k hk
    rw [h2, hfnd k (by omega)]; exact h5
  · rw [hl] at hi
    rw [hfnd _ (by omega)]; exact hlt i hi
end
end Go.Proofs.YtniamfaiamgncaaDoor
