/- The errors of the codes, as package fault holds them. -/
import Derived.Test.YtgcjclglhijchaaDoorProg
import Derived.Test.YtgcjclglhijchaaDoorBlk
import Derived.WalkKit
import Derived.WalkSpells
import Derived.WalkLawsBesides
import Derived.RegionTactic
import Derived.BigRegion
import Derived.Handy
import Derived.Lib.Hide
import Derived.Deep.RegionWith
import Derived.StillTailTactics
import Derived.Outline
import Derived.Test.YtgcjclglhijchaaDoorStab2
namespace Go.Proofs.YtgcjclglhijchaaDoor
open Go Go.RowKit
/-- The error that stands at an address. -/
abbrev errAt (a : Addr) : Value := .iface 163 (.pointer (some a))
/-- The variable of each code's error. -/
def sg : List Nat := [1, 2, 3, 4, 5, 6, 7, 8, 9, 10, 11, 12, 13, 0, 14, 15]
/-- What is known of the errors of the codes: code c's stands at 'ea (c - 2)'. -/
structure Sent (w : World) (ea : Nat → Addr) : Prop where
  held : ∀ k, k < 16 → w.cell? ⟨sg.getD k 0, 0, none⟩ = some (errAt (ea k))
  glo : ∀ k, k < 16 → sg.getD k 0 < w.heap.size
  row : ∀ k, k < 16 → ∃ c t, w.heap[(ea k).block]? = some (.cells c t (0, 0))
  inj : ∀ k j, k < 16 → j < 16 → ea k = ea j → k = j
theorem Sent.ext {w w' : World} {ea : Nat → Addr} (h : Sent w ea) (hx : Ext w w') : Sent w' ea :=
  ⟨fun k hk => by rw [hx.cell (p := ⟨sg.getD k 0, 0, none⟩) (h.glo k hk)]; exact h.held k hk, fun k hk => Nat.lt_of_lt_of_le (h.glo k hk) hx.size,
   fun k hk => by
    obtain ⟨c, t, hc⟩ := h.row k hk
    exact ⟨c, t, by rw [hx.block _ (Array.getElem?_eq_some_iff.1 hc).1]; exact hc⟩, h.inj⟩
/-- The error of a code; nil, if it has none. -/
def errOf (ea : Nat → Addr) (c : Int) : Value := if 2 ≤ c ∧ c ≤ 17 then errAt (ea (c.toNat - 2)) else .nilIface
end Go.Proofs.YtgcjclglhijchaaDoor
