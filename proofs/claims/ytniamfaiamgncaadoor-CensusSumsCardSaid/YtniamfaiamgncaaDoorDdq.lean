/- Small facts: a draw; an entry of an automaton that may be. -/
import Derived.Test.YtniamfaiamgncaaDoorLst2
namespace Go.Proofs.YtniamfaiamgncaaDoor
open Go Go.RowKit
theorem drew_ext (w : World) : Ext w w.drew := ⟨rfl, rfl, rfl, Nat.le_refl _, fun _ _ => rfl⟩
theorem dd_ent {d : Dd} (hd : d.Ok) {s c : Nat} (hs : s < d.nx.length) (hc : c < 256) {h : c < d.nx[s].length} : d.nx[s][c] = ((d.to s c : Nat) : Int) := by
  have := hd.ent s c hs hc
  unfold Dd.to
  unfold Dd.ent at this ⊢
  rw [getD_get hs, getD_get h] at this ⊢
  omega
end Go.Proofs.YtniamfaiamgncaaDoor
