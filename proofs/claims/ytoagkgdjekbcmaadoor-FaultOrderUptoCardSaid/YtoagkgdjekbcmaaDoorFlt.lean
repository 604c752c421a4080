/- What every statement of package fault asks last: a syntax error at a place, in a stage. -/
import Derived.Test.YtoagkgdjekbcmaaDoorNew
import Derived.Test.YtoagkgdjekbcmaaDoorEqF
import Derived.Test.YtoagkgdjekbcmaaDoorWords
import Derived.Test.YtoagkgdjekbcmaaDoorErrN
import Derived.Test.YtoagkgdjekbcmaaDoorErrL
namespace Go.Proofs.YtoagkgdjekbcmaaDoor
open Go Go.RowKit
abbrev twoWords : ByteArray := ⟨#[115, 116, 97, 103, 101, 32, 49, 58, 32, 97, 116, 32, 55, 58, 32, 115, 121, 110, 116, 97, 120]⟩
theorem text_two (T : TypeId) (x : Value) (a : Addr) (w : World) (hL : Chain w [(69, .int .i64 1), (55, .int .i64 7)] (.iface T x) (errAt a)) (hs : w.cell? a = some (.string ⟨#[115, 121, 110, 116, 97, 120]⟩)) :
    Calls Tryd.prog 16 #[.iface T x] w fun e w' => e = .returned (.string twoWords) ∧ Below w.heap.size w w' := by
  have hw := words_two (.iface T x) a w hL hs
  go_enter Tryd.func16, Tryd.ntmps16
  go_wp2_with fail
  refine hw.mono ?_
  rintro e w1 ⟨rfl, hE⟩
  go_wp2
  go_ret
  exact ⟨rfl, hE⟩
/-- What the walks of the statements lean on. -/
structure Known (w : World) (ea : Nat → Addr) : Prop where
  sent : Sent w ea
  errT : ErrT w
  syn : w.cell? (ea 1) = some (.string ⟨#[115, 121, 110, 116, 97, 120]⟩)
theorem Known.ext {w w' : World} {ea : Nat → Addr} (h : Known w ea) (hx : Ext w w') : Known w' ea := by
  refine ⟨h.sent.ext hx, h.errT.ext hx, ?_⟩
  obtain ⟨c, t, hc⟩ := h.sent.row 1 (by omega)
  rw [hx.cell (p := ea 1) (Array.getElem?_eq_some_iff.1 hc).1]
  exact h.syn
theorem code_sent {w : World} {ea : Nat → Addr} (h : Sent w ea) : ∀ f k j, f + k = 16 → j < 16 → k ≤ j → codeAt ea (ea j) f k = (j : Int) + 2
  | 0, k, j, h1, h2, h3 => by omega
  | f + 1, k, j, h1, h2, h3 => by
    unfold codeAt
    by_cases e : ea j = ea k
    · rw [if_pos e, h.inj j k h2 (by omega) e]
    · rw [if_neg e]
      have : k ≠ j := by rintro rfl; exact e rfl
      exact code_sent h f (k + 1) j (by omega) h2 (by omega)
set_option maxHeartbeats 1000000 in
set_option maxRecDepth 20000 in
theorem wakes_any (ea : Nat → Addr) (w : World) (h : Known w ea) :
    Calls Tryd.prog 6 #[] w fun e w' => e = .returned (.bool true) ∧ Below w.heap.size w w' := by
  have hof := of_some 1 ea w h.sent (by omega)
  go_enter Tryd.func6, Tryd.ntmps6
  go_wp2_with fail
  refine hof.mono ?_
  rintro e w1 ⟨rfl, hE⟩
  have hb := hE
  have h1 := h.ext hb
  obtain ⟨c1, t1, hr1⟩ := h1.sent.row 1 (by omega)
  have hlt := (Array.getElem?_eq_some_iff.1 hr1).1
  have hp := Place_is [] (errAt (ea 1)) (ea 1) 7 w1 rfl (by simp only [deep]; omega)
  clear hof hE
  go_wp2_with fail
  refine hp.mono ?_
  rintro e w2 ⟨v2, rfl, hL2, hd2, hE⟩
  replace hb := bel_call hb hE
  have hp := InStage_is _ v2 (ea 1) 1 w2 hL2 hd2
  clear hE
  go_wp2_with fail
  refine hp.mono ?_
  rintro e w3 ⟨v3, rfl, hL3, hd3, hE⟩
  replace hb := bel_call hb hE
  clear hE hp hL2 hd2
  have h3 := h.ext hb
  obtain ⟨T, x, rfl⟩ := Chain.iface hL3
  have ht := tell_is ea (ea 1) [.stage 1, .place 7] _ _ w3 h3.sent h3.errT hL3 ⟨rfl, rfl, rfl, rfl, trivial⟩ (h3.sent.row 1 (by omega))
  rw [code_sent h3.sent 16 0 1 (by omega) (by omega) (by omega)] at ht
  go_wp2_with fail
  refine ht.mono ?_
  rintro e w4 ⟨f, rfl, hf, hE⟩
  replace hb := bel_call hb hE
  have hL4 := hL3.ext hE
  have hq := eqfault_any f (.agg #[.int .i64 3, .int .i64 1, .int .i64 0, .int .i64 7, .slice none 0 0]) _ _ _ _ 3 1 0 7 _ [] w4 hf ⟨_, rfl, Texts.nil _⟩ true (by decide)
  clear hE ht
  obtain ⟨ns, rfl, hns⟩ := hf
  go_wp2_with fail
  refine hq.mono ?_
  rintro e w5 ⟨rfl, hE⟩
  replace hb := bel_call hb hE
  have h5 := h.ext hb
  have hw := text_two T x (ea 1) w5 (hL4.ext hE) h5.syn
  clear hE hq
  go_wp2_with fail
  refine hw.mono ?_
  rintro e w6 ⟨rfl, hE⟩
  replace hb := bel_call hb hE
  have hn := of_low 0 ea w6 (h.ext hb).sent (by omega)
  clear hE hw
  go_wp2_with fail
  refine hn.mono ?_
  rintro e w7 ⟨rfl, hE⟩
  replace hb := bel_call hb hE
  go_wp2
  go_ret
  exact ⟨rfl, hb⟩
end Go.Proofs.YtoagkgdjekbcmaaDoor
