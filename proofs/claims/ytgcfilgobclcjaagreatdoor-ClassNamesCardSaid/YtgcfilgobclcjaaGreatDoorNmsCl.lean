/- ClassNames returns true: on the conditions that the errors, the tables and the type that errors.As asks for, which the card ties to the program's text, stand in their variables when the call begins. -/
import Derived.Test.YtgcfilgobclcjaaGreatDoorBse
namespace Go.Proofs.YtgcfilgobclcjaaGreatDoor
open Go Go.RowKit
def nmL : List (List UInt8) := [[100, 105, 103, 105, 116], [108, 111, 119, 101, 114], [117, 112, 112, 101, 114], [97, 108, 112, 104, 97], [97, 108, 110, 117, 109], [119, 111, 114, 100], [120, 100, 105, 103, 105, 116], [98, 108, 97, 110, 107], [115, 112, 97, 99, 101], [112, 117, 110, 99, 116], [112, 114, 105, 110, 116], [99, 110, 116, 114, 108], [97, 110, 121]]
def nmC : List Nat := [10, 26, 26, 52, 62, 63, 22, 2, 6, 32, 95, 33, 256]
def nmB (k : Nat) : ByteArray := ⟨(nmL.getD k []).toArray⟩
abbrev nmV : Array Value := #[.string ⟨#[100, 105, 103, 105, 116]⟩, .string ⟨#[108, 111, 119, 101, 114]⟩, .string ⟨#[117, 112, 112, 101, 114]⟩, .string ⟨#[97, 108, 112, 104, 97]⟩, .string ⟨#[97, 108, 110, 117, 109]⟩, .string ⟨#[119, 111, 114, 100]⟩, .string ⟨#[120, 100, 105, 103, 105, 116]⟩, .string ⟨#[98, 108, 97, 110, 107]⟩, .string ⟨#[115, 112, 97, 99, 101]⟩, .string ⟨#[112, 117, 110, 99, 116]⟩, .string ⟨#[112, 114, 105, 110, 116]⟩, .string ⟨#[99, 110, 116, 114, 108]⟩, .string ⟨#[97, 110, 121]⟩]
abbrev nmW : Array Value := #[.int .i64 10, .int .i64 26, .int .i64 26, .int .i64 52, .int .i64 62, .int .i64 63, .int .i64 22, .int .i64 2, .int .i64 6, .int .i64 32, .int .i64 95, .int .i64 33, .int .i64 256]
theorem nm_at (k : Nat) (h : k < 13) : nmV[k]? = some (.string (nmB k)) ∧ nmW[k]? = some (.int .i64 (nmC.getD k 0 : Nat)) := by
  have hc : k = 0 ∨ k = 1 ∨ k = 2 ∨ k = 3 ∨ k = 4 ∨ k = 5 ∨ k = 6 ∨ k = 7 ∨ k = 8 ∨ k = 9 ∨ k = 10 ∨ k = 11 ∨ k = 12 := by omega
  rcases hc with rfl | rfl | rfl | rfl | rfl | rfl | rfl | rfl | rfl | rfl | rfl | rfl | rfl <;> exact ⟨rfl, rfl⟩
def nmSet (k : Nat) : BitVec 256 := match nmd (nmL.getD k []) with
  | some S => S
  | none => 0#256
def nmOk (k : Nat) : Bool := decide (prL ([91, 91, 58] ++ nmL.getD k [] ++ [58, 93, 93]) = .inr (nmSet k, (nmL.getD k []).length + 6)) && decide (prL ([91, 91, 58] ++ nmL.getD k [] ++ [93]) = .inl (false, 1)) && decide (cnt (nmSet k) = nmC.getD k 0) && decide ((nmL.getD k []).length ≤ 6)
theorem nm_all : (List.range 13).all nmOk = true := by decide +kernel
theorem nm_last : prL [91, 91, 58, 112, 114, 105, 110, 116, 58, 93, 45, 45, 91, 91, 58, 97, 108, 110, 117, 109, 58, 93, 32, 93, 93] = .inr (nmSet 9, 25) ∧ prL [91, 91, 58, 112, 117, 110, 99, 116, 58, 93, 93] = .inr (nmSet 9, 11) := by decide +kernel
theorem count_is (s : BitVec 256) (c : Nat) (h : cnt s = c) (w : World) :
    Calls Tryz.prog 15 #[sv s] w fun e w' => e = .returned (.int .i64 (c : Nat)) ∧ Below w.heap.size w w' := by subst h; exact count_any s w
set_option maxRecDepth 20000 in
theorem nm_parse (k : Nat) (hk : k < 13) (B : ByteArray) (hB : nmB k = B) (ea : Nat → Addr) (w : World) (hK : Kg w ea) :
    (Calls Tryz.prog 8 #[.string (⟨#[91, 91, 58]⟩ ++ B ++ ⟨#[58, 93, 93]⟩), .int .i64 0] w fun e w' => e = .returned (.tuple #[sv (nmSet k), .int .i64 ((B.size : Int) + 6), .nilIface]) ∧ Ext w w') ∧
    (Calls Tryz.prog 8 #[.string (⟨#[91, 91, 58]⟩ ++ B ++ ⟨#[93]⟩), .int .i64 0] w fun e w' => ∃ v, e = .returned (.tuple #[sv0, .int .i64 0, v]) ∧ Er w' ea v (some (1, 1)) ∧ Ext w w') := by
  have h := List.all_eq_true.1 nm_all k (List.mem_range.2 hk)
  unfold nmOk at h
  simp only [Bool.and_eq_true, decide_eq_true_eq] at h
  obtain ⟨⟨⟨h1, h2⟩, _⟩, h4⟩ := h
  have hl : B.data.toList = nmL.getD k [] := by rw [← hB]; rfl
  have hs : B.size = (nmL.getD k []).length := by rw [← hl, Array.length_toList]; rfl
  have z1 : (⟨#[91, 91, 58]⟩ : ByteArray).size = 3 := rfl
  have z2 : (⟨#[58, 93, 93]⟩ : ByteArray).size = 3 := rfl
  have z3 : (⟨#[93]⟩ : ByteArray).size = 1 := rfl
  obtain ⟨S, hS⟩ : ∃ S, nmSet k = S := ⟨_, rfl⟩
  rw [hS] at h1 ⊢
  have g1 : prs (⟨#[91, 91, 58]⟩ ++ B ++ ⟨#[58, 93, 93]⟩) 0 = .inr (S, (nmL.getD k []).length + 6) := by rw [prs_zero, data_append, data_append, hl]; exact h1
  have g2 : prs (⟨#[91, 91, 58]⟩ ++ B ++ ⟨#[93]⟩) 0 = .inl (false, 1) := by rw [prs_zero, data_append, data_append, hl]; exact h2
  have s1 : (⟨#[91, 91, 58]⟩ ++ B ++ ⟨#[58, 93, 93]⟩ : ByteArray).size ≤ 4294967000 := by rw [ByteArray.size_append, ByteArray.size_append, z1, z2]; omega
  have s2 : (⟨#[91, 91, 58]⟩ ++ B ++ ⟨#[93]⟩ : ByteArray).size ≤ 4294967000 := by rw [ByteArray.size_append, ByteArray.size_append, z1, z3]; omega
  have p1 := parse_er ea _ 0 s1 w hK _ g1
  have p2 := parse_er ea _ 0 s2 w hK _ g2
  simp only [pS, pN, pE] at p1 p2
  rw [← hs] at p1
  rw [sv_zero] at p2
  clear h1 h2 h4 g1 g2 s1 s2 hl hs hB hS z1 z2 z3
  generalize (⟨#[91, 91, 58]⟩ ++ B ++ ⟨#[58, 93, 93]⟩ : ByteArray) = T1 at p1 ⊢
  generalize (⟨#[91, 91, 58]⟩ ++ B ++ ⟨#[93]⟩ : ByteArray) = T2 at p2 ⊢
  constructor
  · refine p1.mono ?_
    rintro e w' ⟨v, rfl, hv, hx⟩
    obtain rfl : v = .nilIface := hv
    refine ⟨?_, hx⟩
    rw [show ((B.size + 6 : Nat) : Int) = (B.size : Int) + 6 by omega]
  · refine p2.mono ?_
    rintro e w' ⟨v, rfl, hv, hx⟩
    exact ⟨v, rfl, hv, hx⟩
set_option maxHeartbeats 4000000 in
set_option maxRecDepth 20000 in
theorem names_any (ea : Nat → Addr) (w : World) (hK : Kg w ea) :
    Calls Tryz.prog 6 #[] w fun e w' => e = .returned (.bool true) ∧ Below w.heap.size w w' := by
  have HK := Lib.hid hK
  have hx0 : Ext w ((w.alloc (.cells nmV 9)).alloc (.cells nmW 3)) := by go_grown
  have b1 := (Blk.new w nmV 9).alloc (.cells nmW 3)
  have b2 := Blk.new (w.alloc (.cells nmV 9)) nmW 3
  rw [show (w.alloc (.cells nmV 9)).heap.size = w.heap.size + 1 by simp] at b2
  have HX0 := Lib.hid hx0
  have HB := Lib.hid (And.intro b1 b2)
  clear hK hx0 b1 b2
  go_enter Tryz.func6, Tryz.ntmps6
  go_wp2_with fail
  generalize (w.alloc (.cells nmV 9)).alloc (.cells nmW 3) = w0 at HX0 HB ⊢
  generalize hp2 : w.heap.size + 1 = p2 at HB ⊢
  obtain ⟨p1, hp1⟩ : ∃ p1, w.heap.size = p1 := ⟨_, rfl⟩
  have HP := Lib.hid hp1
  rw [hp1] at HB ⊢
  clear hp2 hp1
  go_loopw [3] (fun i wr => ∃ k : Nat, k ≤ 13 ∧ i = .int .i64 k ∧ Hid (Ext w0 wr)) (fun i _ => 13 - (intOf i).toNat)
  case atStart => exact ⟨0, by omega, rfl, Lib.hid (Below.refl _ _)⟩
  case round =>
    obtain ⟨k, hk, rfl, hE⟩ := hrel
    by_cases hlt : k < 13
    · have hd : decide ((k : Int) < 13) = true := by simp; omega
      obtain ⟨B, hB⟩ : ∃ B, nmB k = B := ⟨_, rfl⟩
      obtain ⟨c, hc⟩ : ∃ c, nmC.getD k 0 = c := ⟨_, rfl⟩
      obtain ⟨S, hS⟩ : ∃ S, nmSet k = S := ⟨_, rfl⟩
      have hall := List.all_eq_true.1 nm_all k (List.mem_range.2 hlt)
      unfold nmOk at hall
      simp only [Bool.and_eq_true, decide_eq_true_eq] at hall
      have hcn := hall.1.2
      have hBs : B.size ≤ 6 := by
        rw [← hB]
        show ((nmL.getD k []).toArray).size ≤ 6
        rw [List.size_toArray]; exact hall.2
      rw [hS, hc] at hcn
      clear hall
      have HA := Lib.hid (show ∀ w', Ext w0 w' → w'.cell? ⟨p1, k, none⟩ = some (.string B) ∧ w'.cell? ⟨p2, k, none⟩ = some (.int .i64 (c : Int)) from fun w' hx => by
        have h := nm_at k hlt
        rw [hB, hc] at h
        exact ⟨((HB.out.1.ext hx).cell k).trans h.1, ((HB.out.2.ext hx).cell k).trans h.2⟩)
      have HN := Lib.hid (fun w' (hx : Ext w0 w') => nm_parse k hlt B hB ea w' (HK.out.ext (bel_call HX0.out hx)))
      rw [hS] at HN
      have HC := Lib.hid (fun w => count_is S c hcn w)
      clear hB hc hS hcn
      obtain ⟨a0, a1⟩ := HA.out wr hE.out
      go_wp2_with fail
      refine (HN.out wr hE.out).1.mono ?_
      rintro e w1 ⟨rfl, hx1⟩
      have hx2 : Ext wr (w1.alloc (.cells (svs S) 27)) := bel_alloc hx1 (Below.refl _ _) _
      have HE2 := Lib.hid (bel_call hE.out hx2)
      have HS2 := Lib.hid (Blk.new w1 (svs S) 27)
      clear a0 a1 hx1 hx2
      go_wp2_with fail
      generalize hq : w1.heap.size = q at HS2 ⊢
      clear hq
      generalize w1.alloc (.cells (svs S) 27) = w2 at HE2 HS2 ⊢
      refine G.wp_region_stab (G := Ext) (fun _ => none) (by kernel_rfl) (by kernel_rfl) (fun _ _ h => by cases h) (fun hex => ?_)
      iterate 7
        (refine G.wpS_one (A := ?_) hex rfl rfl (by simp) ?_ ?_ ?_
         rotate_left 2
         · intro w' hC K hK
           go_wp2_with (fail)
           refine hK _ ?_
           first | exact Below.refl _ _ | assumption | ((repeat' (first | (with_reducible exact Below.refl _ _) | (with_reducible assumption) | (with_reducible refine below_drewN ?_ _) | (with_reducible refine Below.alloc ?_ ?_ _) | (with_reducible refine Below.drew ?_) | (with_reducible refine Below.setCell ?_ ?_ _) | (with_reducible refine Below.trans ?_ (Below.mono (by with_reducible assumption) ?_)) | go_size)))
         rotate_left 1
         · rfl
         clear hex; intro hex)
      refine G.wpS_one (A := ?_) hex rfl rfl (by simp) ?_ ?_ ?_
      rotate_left 2
      · intro w' hC K hK
        obtain ⟨a0, a1⟩ := HA.out w' (bel_call HE2.out hC.1)
        go_wp2_with (fail)
        refine hK _ ?_
        first | exact Below.refl _ _ | assumption | ((repeat' (first | (with_reducible exact Below.refl _ _) | (with_reducible assumption) | (with_reducible refine below_drewN ?_ _) | (with_reducible refine Below.alloc ?_ ?_ _) | (with_reducible refine Below.drew ?_) | (with_reducible refine Below.setCell ?_ ?_ _) | (with_reducible refine Below.trans ?_ (Below.mono (by with_reducible assumption) ?_)) | go_size)))
      rotate_left 1
      · rfl
      clear hex; intro hex
      iterate 5
        (refine G.wpS_one (A := ?_) hex rfl rfl (by simp) ?_ ?_ ?_
         rotate_left 2
         · intro w' hC K hK
           go_wp2_with (fail)
           refine hK _ ?_
           first | exact Below.refl _ _ | assumption | ((repeat' (first | (with_reducible exact Below.refl _ _) | (with_reducible assumption) | (with_reducible refine below_drewN ?_ _) | (with_reducible refine Below.alloc ?_ ?_ _) | (with_reducible refine Below.drew ?_) | (with_reducible refine Below.setCell ?_ ?_ _) | (with_reducible refine Below.trans ?_ (Below.mono (by with_reducible assumption) ?_)) | go_size)))
         rotate_left 1
         · rfl
         clear hex; intro hex)
      refine G.wpS_one (A := ?_) hex rfl rfl (by simp) ?_ ?_ ?_
      rotate_left 2
      · intro w' hC K hK
        obtain ⟨b0, b1, b2, b3⟩ := (HS2.out.ext hC.1).cells4
        go_wp2_with (fail)
        refine hK _ ?_
        first | exact Below.refl _ _ | assumption | ((repeat' (first | (with_reducible exact Below.refl _ _) | (with_reducible assumption) | (with_reducible refine below_drewN ?_ _) | (with_reducible refine Below.alloc ?_ ?_ _) | (with_reducible refine Below.drew ?_) | (with_reducible refine Below.setCell ?_ ?_ _) | (with_reducible refine Below.trans ?_ (Below.mono (by with_reducible assumption) ?_)) | go_size)))
      rotate_left 1
      · rfl
      clear hex; intro hex
      refine G.wpS_one (A := ?_) hex rfl rfl (by simp) ?_ ?_ ?_
      rotate_left 2
      · intro w' hC K hK
        go_wp2_with (refine (HC.out _).mono ?_; rintro e w5 ⟨rfl, hE5⟩)
        refine hK _ ?_
        first | exact Below.refl _ _ | assumption | ((repeat' (first | (with_reducible exact Below.refl _ _) | (with_reducible assumption) | (with_reducible refine below_drewN ?_ _) | (with_reducible refine Below.alloc ?_ ?_ _) | (with_reducible refine Below.drew ?_) | (with_reducible refine Below.setCell ?_ ?_ _) | (with_reducible refine Below.trans ?_ (Below.mono (by with_reducible assumption) ?_)) | go_size)))
      rotate_left 1
      · rfl
      clear hex; intro hex
      iterate 3
        (refine G.wpS_one (A := ?_) hex rfl rfl (by simp) ?_ ?_ ?_
         rotate_left 2
         · intro w' hC K hK
           go_wp2_with (fail)
           refine hK _ ?_
           first | exact Below.refl _ _ | assumption | ((repeat' (first | (with_reducible exact Below.refl _ _) | (with_reducible assumption) | (with_reducible refine below_drewN ?_ _) | (with_reducible refine Below.alloc ?_ ?_ _) | (with_reducible refine Below.drew ?_) | (with_reducible refine Below.setCell ?_ ?_ _) | (with_reducible refine Below.trans ?_ (Below.mono (by with_reducible assumption) ?_)) | go_size)))
         rotate_left 1
         · rfl
         clear hex; intro hex)
      refine G.wpS_one (A := ?_) hex rfl rfl (by simp) ?_ ?_ ?_
      rotate_left 2
      · intro w' hC K hK
        obtain ⟨a0, a1⟩ := HA.out w' (bel_call HE2.out hC.1)
        go_wp2_with (fail)
        refine hK _ ?_
        first | exact Below.refl _ _ | assumption | ((repeat' (first | (with_reducible exact Below.refl _ _) | (with_reducible assumption) | (with_reducible refine below_drewN ?_ _) | (with_reducible refine Below.alloc ?_ ?_ _) | (with_reducible refine Below.drew ?_) | (with_reducible refine Below.setCell ?_ ?_ _) | (with_reducible refine Below.trans ?_ (Below.mono (by with_reducible assumption) ?_)) | go_size)))
      rotate_left 1
      · rfl
      clear hex; intro hex
      iterate 2
        (refine G.wpS_one (A := ?_) hex rfl rfl (by simp) ?_ ?_ ?_
         rotate_left 2
         · intro w' hC K hK
           go_wp2_with (fail)
           refine hK _ ?_
           first | exact Below.refl _ _ | assumption | ((repeat' (first | (with_reducible exact Below.refl _ _) | (with_reducible assumption) | (with_reducible refine below_drewN ?_ _) | (with_reducible refine Below.alloc ?_ ?_ _) | (with_reducible refine Below.drew ?_) | (with_reducible refine Below.setCell ?_ ?_ _) | (with_reducible refine Below.trans ?_ (Below.mono (by with_reducible assumption) ?_)) | go_size)))
         rotate_left 1
         · rfl
         clear hex; intro hex)
      refine G.wpS_nil fun w3 hAll => ?_
      have HE3 := Lib.hid (bel_call HE2.out hAll.1)
      clear hAll hex HE2 HS2 HC
      obtain ⟨a0, a1⟩ := HA.out w3 HE3.out
      go_wp2_with fail
      refine (HN.out w3 HE3.out).2.mono ?_
      rintro e w4 ⟨v, rfl, hv, hx4⟩
      have HE4 := Lib.hid (bel_call HE3.out hx4)
      have hcd := code_er ea v (some (1, 1)) w4 (HK.out.ext (bel_call HX0.out HE4.out)) hv
      have HCD := Lib.hid hcd
      clear hv hx4 hcd HN HA a0 a1 HE3
      go_wp2_with fail
      refine HCD.out.mono ?_
      rintro e w5 ⟨rfl, hx5⟩
      have HE5 := Lib.hid (bel_call HE4.out hx5)
      clear hx5 HCD HE4
      simp only [erC]
      go_wp2_with fail
      go_roundw
      case rel => first | exact ⟨k + 1, by omega, by go_num, HE5⟩ | ((repeat apply Exists.intro); exact ⟨⟨k + 1, by omega, by go_num, HE5⟩, rfl⟩)
      case measure => simp [intOf]; omega
    · obtain rfl : k = 13 := by omega
      obtain ⟨S, hS⟩ : ∃ S, nmSet 9 = S := ⟨_, rfl⟩
      have hl := nm_last
      rw [hS] at hl
      have HP1 := Lib.hid (fun w hK => parse_er ea ⟨#[91, 91, 58, 112, 114, 105, 110, 116, 58, 93, 45, 45, 91, 91, 58, 97, 108, 110, 117, 109, 58, 93, 32, 93, 93]⟩ 0 (by decide) w hK (.inr (S, 25)) (by rw [prs_zero]; exact hl.1))
      have HP2 := Lib.hid (fun w hK => parse_er ea ⟨#[91, 91, 58, 112, 117, 110, 99, 116, 58, 93, 93]⟩ 0 (by decide) w hK (.inr (S, 11)) (by rw [prs_zero]; exact hl.2))
      simp only [pS, pN, pE] at HP1 HP2
      have hss := same_set S
      have HE := Lib.hid (bel_call HX0.out hE.out)
      clear hl hS hE HB HX0
      go_wp2_with fail
      refine (HP1.out wr (HK.out.ext HE.out)).mono ?_
      rintro e w1 ⟨v1, rfl, hv1, hx1⟩
      obtain rfl : v1 = .nilIface := hv1
      have hx2 : Ext wr (w1.alloc (.cells (svs S) 27)) := bel_alloc hx1 (Below.refl _ _) _
      have HE2 := Lib.hid (bel_call HE.out hx2)
      have HB2 := Lib.hid (Blk.new w1 (svs S) 27)
      clear hx1 hx2 HP1 HE
      go_wp2_with fail
      generalize hq : w1.heap.size = q at HB2 ⊢
      clear hq
      generalize w1.alloc (.cells (svs S) 27) = w2 at HE2 HB2 ⊢
      refine (HP2.out w2 (HK.out.ext HE2.out)).mono ?_
      rintro e w3 ⟨v3, rfl, hv3, hx3⟩
      obtain rfl : v3 = .nilIface := hv3
      have hx4 : Ext w2 (w3.alloc (.cells (svs S) 27)) := bel_alloc hx3 (Below.refl _ _) _
      have HE4 := Lib.hid (bel_call HE2.out hx4)
      obtain ⟨c0, c1, c2, c3⟩ := (HB2.out.ext hx4).cells4
      obtain ⟨d0, d1, d2, d3⟩ := (Blk.new w3 (svs S) 27).cells4
      clear hx3 hx4 HP2 HB2 HE2
      have hw := wakes_any (ea 1) (ea 2) _ (HK.out.ext HE4.out).tab (HK.out.ext HE4.out).kn
      have HW := Lib.hid hw
      clear hw
      go_wp2_with fail
      refine HW.out.mono ?_
      rintro e w7 ⟨rfl, hx7⟩
      have HE7 := Lib.hid (bel_call HE4.out hx7)
      clear hx7 HE4 HW
      go_wp2_with fail
      go_ret
      rw [← HP.out]
      exact ⟨rfl, HE7.out⟩
end Go.Proofs.YtgcfilgobclcjaaGreatDoor
namespace Go.Proofs.YtgcfilgobclcjaaGreatDoor
open Go Go.ChangeShapes Go.WideShapes Go.ChangeAt Go.RowKit
theorem classNames_met (os : Os) (args : Array Value) : laidMetH Tryz.prog Rows.classNamesRow.laid ((World.doorLaid Tryz.prog 400 os).forCall (fun _ _ => 0) ⟨#[], args, []⟩).memory :=
  laidMetH_of_parts (laidMet_of_run' 8 (by kernel_rfl) (by kernel_rfl)) (by kernel_rfl)
set_option maxRecDepth 100000 in
theorem classNames_lifted (os : Os) (started : os.Started) (H : Type) (enc : TypeId × Value → H) (F : Stop.Interp) :
    ReturnsInHanded {} Tryz.checked os 6 .any ((OpenSpec.ofChange Rows.classNamesSpec).preRow enc Tryz.prog Tryz.f6 Rows.classNamesRow.domain false Rows.classNamesRow.laid) (((OpenSpec.ofChange Rows.classNamesSpec).at F).post enc Tryz.prog Tryz.f6 false true false false) := by
  have hx : DataW.whole enc Tryz.prog ((World.doorLaid Tryz.prog 400 os).forCall (fun _ _ => 0) ⟨#[], #[], []⟩).memory Tryz.f6.params.toList (OpenSpec.ofChange Rows.classNamesSpec).vars false (#[] : Array Value).toList 8 = some ([], [], []) := by kernel_rfl
  refine returnsInHanded_of_row (C := Tryz.checked) (s := OpenSpec.ofChange Rows.classNamesSpec) own started (by kernel_rfl) Tryz.func6
    (witness_row_atRef (enc := enc) (C := Tryz.checked) false (World.doorLaid Tryz.prog 400 os) #[] rfl (by kernel_rfl) (by kernel_rfl) (by kernel_rfl)
      (OpenSpec.preRow_of_cond 8 hx (by kernel_rfl) (fun k hk => by cases hk) (by kernel_rfl) (classNames_met os _))) ?_
  intro W base args ds gs before hval0 hW _ _ _hsz0 hL hsh _
  have hW' := hW
  obtain ⟨p, q, hA0, hV, rfl, hfz, hnd⟩ := hW
  have hA : DataW.TrodAll enc Tryz.prog W 0 (fun _ => true) true Tryz.f6.params.toList args.toList ds p := hA0
  rw [Tryz.params6] at hA
  obtain ⟨ha, rfl, rfl⟩ := trodAll_nil hA
  obtain rfl : args = #[] := by cases args; simp_all
  obtain ⟨rfl, rfl⟩ := trodVars_none hV
  obtain ⟨ea, hK⟩ := known_great hL hsh
  refine (names_any ea W hK).mono fun e W' ⟨he, hB⟩ => ?_
  subst he
  have e1 : ((OpenSpec.ofChange Rows.classNamesSpec).at F).fn H ([] ++ []) = { results := [.lit (.bool true)], args := [] } := rfl
  refine ⟨_, rfl, _, _, _, [], [], [], hW', ?_, ?_, ?_, hB.frame _, fun h => by cases h⟩
  · rw [e1]; exact trodAll_mk1 (shut_bool Tryz.underlying4 true)
  · rw [e1]; exact hA0
  · rw [e1]; rfl
theorem classNames_row : Rows.ClassNamesSaid :=
  OpenClaim.holds_of_cond 6 Tryz.f6 rfl rfl rfl rfl rfl rfl rfl ⟨rfl, rfl, rfl, rfl, rfl⟩ rfl rfl rfl rfl rfl (by kernel_rfl) Tryz.func6 (by kernel_rfl)
    (of_decide_eq_true (by kernel_rfl)) (by unfold Func.isWrapper; rw [if_neg (of_decide_eq_false (by kernel_rfl))]; exact ⟨rfl, rfl⟩)
    (fun os started H enc _ F => by rw [OpenClaim.pre_eq_preRow]; exact classNames_lifted os started H enc F)
theorem classNames_holds : Rows.ClassNamesCardSaid :=
  Claim7.holds_tied_plain_at .later [] _ _ Rows.classNamesCard.stood.harness Rows.classNamesCard.stood.looks
    classNames_row (fun _ h => by cases h) (by kernel_rfl) (fun _ h => by cases h) classNames_row_tie rfl ⟨rfl, rfl⟩ (by kernel_rfl) rfl
    (fun f fn hf hfn => by
      obtain rfl : f = 6 := Option.some.inj ((show Tryz.prog.funcNamed Rows.classNamesRow.func = some 6 by kernel_rfl).symm.trans hf) |>.symm
      obtain rfl : fn = Tryz.f6 := (Option.some.inj (Tryz.func6.symm.trans hfn)).symm
      exact ⟨by kernel_rfl, fun j t ht => by
        rw [Tryz.params6] at ht
        simp at ht⟩)
    (by kernel_rfl)
#print axioms classNames_holds
end Go.Proofs.YtgcfilgobclcjaaGreatDoor
