/- Errors that are made: of somebody's own text, in whatever wrappers. -/
import Derived.Test.YtoagkgdjekbcmaaDoorTell
import Derived.Test.YtoagkgdjekbcmaaDoorMade
namespace Go.Proofs.YtoagkgdjekbcmaaDoor
open Go Go.RowKit
theorem own_blw {w w' : World} {b e sz n B : Nat} {v : Value} {xs : List Value} (h : w.ownsRow b e sz v n xs) (hb : Below B w w') (hB : w.heap.size ≤ B) : w'.ownsRow b e sz v n xs := by
  obtain ⟨h1, h2 | ⟨g, cap, cur, hv, hg, hh, h3, h4, h5, h6⟩⟩ := h
  · exact ⟨h1, .inl h2⟩
  · exact ⟨h1, .inr ⟨g, cap, cur, hv, hg, by rw [hb.block g (Nat.lt_of_lt_of_le (Array.getElem?_eq_some_iff.1 hh).1 hB)]; exact hh, h3, h4, h5, h6⟩⟩
/-- 'v' is the error at 'a' in the wrappers 'K'. -/
def ErrOf (w : World) (K : List Wr) (v : Value) (a : Addr) : Prop := ∃ L, Chain w L v (errAt a) ∧ Wraps w K L ∧ deep v ≤ w.heap.size ∧ ∃ c t, w.heap[a.block]? = some (.cells c t (0, 0))
theorem ErrOf.ext {w w' : World} {K : List Wr} {v : Value} {a : Addr} (h : ErrOf w K v a) (hx : Ext w w') : ErrOf w' K v a := by
  obtain ⟨L, hL, hW, hv, ca, ta, ha⟩ := h
  exact ⟨L, hL.ext hx, hW.ext hx, Nat.le_trans hv hx.size, ca, ta, by rw [hx.block _ (Array.getElem?_eq_some_iff.1 ha).1]; exact ha⟩
theorem ErrOf.iface {w : World} {K : List Wr} {v : Value} {a : Addr} (h : ErrOf w K v a) : ∃ T x, v = .iface T x := by
  obtain ⟨L, hL, _⟩ := h
  exact Chain.iface hL
theorem ErrOf.base {w : World} {a : Addr} (h : ∃ c t, w.heap[a.block]? = some (.cells c t (0, 0))) : ErrOf w [] (errAt a) a := by
  obtain ⟨c, t, hc⟩ := h
  exact ⟨[], rfl, trivial, (Array.getElem?_eq_some_iff.1 hc).1, c, t, hc⟩
theorem Place_err (K : List Wr) (v : Value) (a : Addr) (n : Int) (w : World) (h : ErrOf w K v a) :
    Calls Tryd.prog 15 #[v, .int .i64 n] w fun e w' => ∃ v', e = .returned v' ∧ ErrOf w' (.place n :: K) v' a ∧ Below w.heap.size w w' := by
  obtain ⟨L, hL, hW, hv, ca, ta, ha⟩ := h
  refine (Place_is L v a n w hL hv).mono ?_
  rintro e w' ⟨v', rfl, h1, h2, hE⟩
  exact ⟨v', rfl, ⟨_, h1, ⟨rfl, rfl, hW.ext hE⟩, h2, ca, ta, by rw [hE.block _ (Array.getElem?_eq_some_iff.1 ha).1]; exact ha⟩, hE⟩
theorem InRule_err (K : List Wr) (v : Value) (a : Addr) (n : Int) (w : World) (h : ErrOf w K v a) :
    Calls Tryd.prog 22 #[v, .int .i64 n] w fun e w' => ∃ v', e = .returned v' ∧ ErrOf w' (.rule n :: K) v' a ∧ Below w.heap.size w w' := by
  obtain ⟨L, hL, hW, hv, ca, ta, ha⟩ := h
  refine (InRule_is L v a n w hL hv).mono ?_
  rintro e w' ⟨v', rfl, h1, h2, hE⟩
  exact ⟨v', rfl, ⟨_, h1, ⟨rfl, rfl, hW.ext hE⟩, h2, ca, ta, by rw [hE.block _ (Array.getElem?_eq_some_iff.1 ha).1]; exact ha⟩, hE⟩
theorem InStage_err (K : List Wr) (v : Value) (a : Addr) (n : Int) (w : World) (h : ErrOf w K v a) :
    Calls Tryd.prog 14 #[v, .int .i64 n] w fun e w' => ∃ v', e = .returned v' ∧ ErrOf w' (.stage n :: K) v' a ∧ Below w.heap.size w w' := by
  obtain ⟨L, hL, hW, hv, ca, ta, ha⟩ := h
  refine (InStage_is L v a n w hL hv).mono ?_
  rintro e w' ⟨v', rfl, h1, h2, hE⟩
  exact ⟨v', rfl, ⟨_, h1, ⟨rfl, rfl, hW.ext hE⟩, h2, ca, ta, by rw [hE.block _ (Array.getElem?_eq_some_iff.1 ha).1]; exact ha⟩, hE⟩
theorem tell_err (ea : Nat → Addr) (a : Addr) (K : List Wr) (v : Value) (w : World) (hS : Sent w ea) (hG : ErrT w) (h : ErrOf w K v a) :
    Calls Tryd.prog 13 #[v] w fun e w' => ∃ f, e = .returned f ∧ Fault w' f (codeAt ea a 16 0) (tStage K) (tRule K) (tAt K) (tNames K) ∧ Below w.heap.size w w' := by
  obtain ⟨L, hL, hW, _, ha⟩ := h
  exact tell_is ea a K L v w hS hG hL hW ha
theorem code_err (ea : Nat → Addr) (a : Addr) (K : List Wr) (v : Value) (w : World) (hS : Sent w ea) (h : ErrOf w K v a) :
    Calls Tryd.prog 11 #[v] w fun e w' => e = .returned (.int .i64 (codeAt ea a 16 0)) ∧ Below w.heap.size w w' := by
  obtain ⟨L, hL, _, _, ha⟩ := h
  exact code_is ea a L v w hS hL ha
theorem new_err (s : ByteArray) (w : World) :
    Calls Tryd.prog 17 #[.string s] w fun e w' => e = .returned (errAt ⟨w.heap.size, 0, none⟩) ∧ ErrOf w' [] (errAt ⟨w.heap.size, 0, none⟩) ⟨w.heap.size, 0, none⟩ ∧ Below w.heap.size w w' := by
  have hb := Blk.new w #[.string s] 75
  go_enter Tryd.func17, Tryd.ntmps17
  go_wp2
  go_ret
  exact ⟨rfl, ErrOf.base ⟨_, _, hb⟩, by go_grown⟩
theorem named_nil (v : Value) (w : World) : Calls Tryd.prog 21 #[.nilIface, v] w fun e w' => e = .returned .nilIface ∧ w' = w := by
  go_enter Tryd.func21, Tryd.ntmps21
  go_wp2
  go_ret
  exact ⟨rfl, rfl⟩
theorem named_own (T : TypeId) (y u : Value) (l : List ByteArray) (w : World) (hu : Texts w u l) :
    Calls Tryd.prog 21 #[.iface T y, u] w fun e w' => ∃ p x, e = .returned (.iface 61 (.pointer (some ⟨p, 0, none⟩))) ∧ Blk w' p #[.iface T y, x] 64 ∧ w.heap.size ≤ p ∧
      w'.ownsRow w.heap.size 9 1 x l.length (l.map Value.string) ∧ Below w.heap.size w w' := by
  go_enter Tryd.func21, Tryd.ntmps21
  go_wp2_with fail
  refine (copyof_own u l w hu).mono ?_
  rintro e w1 ⟨x, rfl, hown, hE⟩
  have hs := hE.size
  have hb := Blk.new w1 #[.iface T y, x] 64
  have hE2 : Ext w1 (w1.alloc (.cells #[.iface T y, x] 64)) := by go_grown
  obtain ⟨ao, cap, rfl⟩ := own_sl hown
  have hown2 := own_blw hown hE2 (Nat.le_refl _)
  go_wp2
  go_ret
  exact ⟨_, _, rfl, hb, hs, hown2, bel_call hE hE2⟩
set_option maxRecDepth 20000 in
theorem copytexts_own (v : Value) (l : List ByteArray) (w : World) (hv : Texts w v l) :
    Calls Tryd.prog 20 #[v] w fun e w' => ∃ v', e = .returned v' ∧ w'.ownsRow w.heap.size 9 1 v' l.length (l.map Value.string) ∧ Below w.heap.size w w' := by
  obtain ⟨i0, hi0, hz0, hz1, hz2⟩ := info_parts info_str
  have hown : w.ownsRow w.heap.size 9 1 (.slice none 0 0) 0 [] := ⟨rfl, .inl ⟨rfl, rfl⟩⟩
  obtain ⟨hlen, ⟨rfl, rfl⟩ | ⟨a, cap, rfl, hcap, hcap2, hcells⟩⟩ := hv
  · go_enter Tryd.func20, Tryd.ntmps20
    go_wp2_with (at_builtin; refine wpList_append_own_none rfl _ _ 32 rfl w.heap.size 9 i0 1 Tryd.underlying32 hi0 _ 0 [] rfl hown rfl ?_)
    go_ret
    exact ⟨_, rfl, hown, Below.refl _ _⟩
  · have hcs := txt_cells hcells
    go_enter Tryd.func20, Tryd.ntmps20
    go_wp2_with (at_builtin; refine wpList_append_own _ rfl _ _ 32 rfl w.heap.size 9 i0 (.string .empty) 1 16 Tryd.underlying32 hi0 hz0 hz1 hz2 rfl (by decide) _ 0 [] rfl hown a l.length cap (l.map Value.string) rfl (by simp) hcs (txt_one l) (by unfold maxLen; omega) (by omega) (Nat.le_refl _) ?_; intro v' w2 hown2 hgrow2 _)
    go_ret
    exact ⟨_, rfl, by simpa using hown2, (Below.refl _ _).grown hgrow2 (Nat.le_refl _) (fun j hj => by cases hj)⟩
end Go.Proofs.YtoagkgdjekbcmaaDoor
