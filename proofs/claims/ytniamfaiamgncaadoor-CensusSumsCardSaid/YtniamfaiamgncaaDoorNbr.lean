/- minimise's numbering: a map that numbers what is found. -/
import Derived.Test.YtniamfaiamgncaaDoorProg
import Derived.Test.YtniamfaiamgncaaDoorMpw
import Derived.Test.YtniamfaiamgncaaDoorOw
import Derived.WalkSpells
import Derived.Lib.Hide
import Derived.LoopTactic
import Derived.Outline
namespace Go.Proofs.YtniamfaiamgncaaDoor
open Go Go.RowKit Go.Maps
theorem law_int : Keyed Tryd.prog 3 := int_keyed Tryd.underlying3
theorem zero_int (w : World) : (zeroValue 3).run Tryd.prog w = .ok (.int .i64 0) w := by kernel_rfl
theorem key_int {x : Int} (h1 : -9223372036854775808 ≤ x) (h2 : x ≤ 9223372036854775807) : keyOf Tryd.prog 3 (.int .i64 x) = some (.int .i64 x) := keyOf_int_mk Tryd.underlying3 (WalkArith.wf_i64 ⟨h1, h2⟩)
/-- What is numbered, in the order in which it was found. -/
def nad (K : List Int) (x : Int) : List Int := if x ∈ K then K else K ++ [x]
def numf (K : List Int) : Value → Option Value
  | .int .i64 x => if x ∈ K then some (.int .i64 (K.idxOf x : Nat)) else none
  | _ => none
abbrev Nm (w : World) (b : Nat) (K : List Int) : Prop := MapAt Tryd.prog 3 w b K.length (numf K)
theorem numf_in {K : List Int} {x : Int} (h : x ∈ K) : numf K (.int .i64 x) = some (.int .i64 (K.idxOf x : Nat)) := by simp [numf, h]
theorem numf_out {K : List Int} {x : Int} (h : x ∉ K) : numf K (.int .i64 x) = none := by simp [numf, h]
theorem nad_in {K : List Int} {x : Int} (h : x ∈ K) : nad K x = K := if_pos h
theorem nad_out {K : List Int} {x : Int} (h : x ∉ K) : nad K x = K ++ [x] := if_neg h
theorem idx_out {K : List Int} {x : Int} (h : x ∉ K) : (K ++ [x]).idxOf x = K.length := by
  rw [List.idxOf_append, if_neg h]; simp
theorem numf_new {K : List Int} {x : Int} (h : x ∉ K) : numf (K ++ [x]) (.int .i64 x) = some (.int .i64 (K.length : Nat)) := by
  rw [numf_in (by simp), idx_out h]
theorem numf_old {K : List Int} {x : Int} (_ : x ∉ K) : ∀ v, v ≠ .int .i64 x → numf (K ++ [x]) v = numf K v := by
  intro v hv
  unfold numf
  split
  · rename_i y
    have e : y ≠ x := fun e => hv (by rw [e])
    by_cases hy : y ∈ K
    · rw [if_pos (by simp [hy]), if_pos hy, List.idxOf_append, if_pos hy]
    · rw [if_neg (by simp [hy, e]), if_neg hy]
  · rfl
set_option maxHeartbeats 1000000 in
set_option maxRecDepth 20000 in
theorem num_any (K : List Int) (x : Int) (b : Nat) (w : World) (hm : Nm w b K) (h1 : -9223372036854775808 ≤ x) (h2 : x ≤ 9223372036854775807) :
    Calls Tryd.prog 109 #[.map (some b), .int .i64 x] w fun e w' => e = .returned (.int .i64 ((nad K x).idxOf x : Nat)) ∧ Nm w' b (nad K x) ∧ w.grownBy w' (some b) ∧ w'.heap.size = w.heap.size := by
  have HM := Lib.hid hm
  have HK := Lib.hid (key_int h1 h2)
  clear hm h1 h2
  by_cases hx : x ∈ K
  · rw [nad_in hx]
    have HI := Lib.hid (numf_in hx)
    clear hx
    go_enter Tryd.func109, Tryd.ntmps109
    go_wp2_with (at_lookup; refine wpList_look_at _ rfl _ _ rfl law_int Tryd.underlying181 zero_int rfl HM.out (.int .i64 x) _ rfl HK.out (.int .i64 (K.idxOf x : Nat)) true (by rw [HI.out]; exact ⟨rfl, rfl⟩) ?_)
    go_ret
    exact ⟨rfl, HM.out, World.grownBy.refl _ _, rfl⟩
  · rw [nad_out hx, idx_out hx]
    have HI := Lib.hid (numf_out hx)
    have HN := Lib.hid (numf_new hx)
    have HO := Lib.hid (numf_old hx)
    clear hx
    go_enter Tryd.func109, Tryd.ntmps109
    go_wp2_with (first | (at_lookup; refine wpList_look_at _ rfl _ _ rfl law_int Tryd.underlying181 zero_int rfl HM.out (.int .i64 x) _ rfl HK.out (.int .i64 0) false (by rw [HI.out]; exact ⟨rfl, rfl⟩) ?_) | (at_len; refine wpList_len_at _ rfl _ rfl Tryd.underlying181 rfl HM.out ?_) | (at_mapUpdate; refine wpList_put_at _ rfl _ _ _ (.inl rfl) law_int Tryd.underlying181 rfl HM.out (.int .i64 x) _ _ rfl rfl HK.out HI.out (numf (K ++ [x])) HN.out HO.out ?_; intro w1 m1 g1 s1))
    go_ret
    exact ⟨rfl, by rw [Nm, List.length_append]; exact m1, g1, s1⟩
end Go.Proofs.YtniamfaiamgncaaDoor
