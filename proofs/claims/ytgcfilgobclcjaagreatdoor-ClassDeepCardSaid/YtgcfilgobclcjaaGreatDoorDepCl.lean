/- ClassDeep returns true: on the conditions that the errors, the tables and the type that errors.As asks for, which the card ties to the program's text, stand in their variables when the call begins. -/
import Derived.Test.YtgcfilgobclcjaaGreatDoorBse
namespace Go.Proofs.YtgcfilgobclcjaaGreatDoor
open Go Go.RowKit
def dpS : Nat → ByteArray
  | 0 => ⟨#[]⟩
  | n + 1 => dpS n ++ ⟨#[91, 97, 45, 45]⟩
def dpE : Nat → ByteArray
  | 0 => ⟨#[]⟩
  | n + 1 => dpE n ++ ⟨#[93]⟩
theorem dpS_size : ∀ n, (dpS n).size = 4 * n
  | 0 => rfl
  | n + 1 => by
    have h : (⟨#[91, 97, 45, 45]⟩ : ByteArray).size = 4 := rfl
    rw [dpS, ByteArray.size_append, dpS_size n, h]; omega
theorem dpE_size : ∀ n, (dpE n).size = n
  | 0 => rfl
  | n + 1 => by
    have h : (⟨#[93]⟩ : ByteArray).size = 1 := rfl
    rw [dpE, ByteArray.size_append, dpE_size n, h]
def lpS : Nat → List UInt8
  | 0 => []
  | n + 1 => lpS n ++ [91, 97, 45, 45]
def lpE : Nat → List UInt8
  | 0 => []
  | n + 1 => lpE n ++ [93]
theorem dpS_list : ∀ n, (dpS n).data.toList = lpS n
  | 0 => rfl
  | n + 1 => by rw [dpS, data_append, dpS_list n]; rfl
theorem dpE_list : ∀ n, (dpE n).data.toList = lpE n
  | 0 => rfl
  | n + 1 => by rw [dpE, data_append, dpE_list n]; rfl
theorem deep_one : prL (lpS 39 ++ [91, 98, 93] ++ lpE 39) = .inr (ofl [97], 198) := by decide +kernel
theorem deep_two : prL (lpS 39 ++ [91, 98, 45, 45, 91, 99, 93, 93] ++ lpE 39) = .inl (true, 160) := by decide +kernel
end Go.Proofs.YtgcfilgobclcjaaGreatDoor
namespace Go.Proofs.YtgcfilgobclcjaaGreatDoor
open Go Go.RowKit
set_option maxHeartbeats 4000000 in
set_option maxRecDepth 20000 in
theorem deep_any (ea : Nat → Addr) (w : World) (hK : Kg w ea) :
    Calls Tryz.prog 7 #[] w fun e w' => e = .returned (.bool true) ∧ Below w.heap.size w w' := by
  have HK := Lib.hid hK
  clear hK
  go_enter Tryz.func7, Tryz.ntmps7
  go_wp2_with fail
  go_loopw [1, 2, 3] (fun s e i wr => ∃ k : Nat, k ≤ 39 ∧ i = .int .i64 ((k : Int) + 1) ∧ s = .string (dpS k) ∧ e = .string (dpE k) ∧ wr = w) (fun _ _ i _ => 40 - (intOf i).toNat)
  case atStart => exact ⟨0, by omega, rfl, rfl, rfl, by first | rfl | trivial⟩
  case round =>
    obtain ⟨k, hk, rfl, rfl, rfl, rfl⟩ := hrel
    by_cases hlt : k < 39
    · have hd : decide ((k : Int) + 1 < 40) = true := by simp; omega
      have hs1 := dpS_size k
      have hs2 := dpE_size k
      have e1 : dpS (k + 1) = dpS k ++ ⟨#[91, 97, 45, 45]⟩ := rfl
      have e2 : dpE (k + 1) = dpE k ++ ⟨#[93]⟩ := rfl
      have HE := Lib.hid (And.intro e1 e2)
      clear e1 e2
      obtain ⟨S, hS⟩ : ∃ S, dpS k = S := ⟨_, rfl⟩
      obtain ⟨E, hE⟩ : ∃ E, dpE k = E := ⟨_, rfl⟩
      rw [hS] at HE hs1 ⊢
      rw [hE] at HE hs2 ⊢
      clear hS hE
      go_wp2_with fail
      go_roundw
      case rel => exact ⟨k + 1, by omega, by go_num, by rw [HE.out.1], by rw [HE.out.2], by first | rfl | trivial⟩
      case measure => simp [intOf]; omega
    · obtain rfl : k = 39 := by omega
      obtain ⟨O, hO⟩ : ∃ O, ofl [97] = O := ⟨_, rfl⟩
      have h1 := deep_one
      rw [hO] at h1
      have hp1 : prs (dpS 39 ++ ⟨#[91, 98, 93]⟩ ++ dpE 39) 0 = .inr (O, 198) := by rw [prs_zero, data_append, data_append, dpS_list, dpE_list]; exact h1
      have hp2 : prs (dpS 39 ++ ⟨#[91, 98, 45, 45, 91, 99, 93, 93]⟩ ++ dpE 39) 0 = .inl (true, 160) := by rw [prs_zero, data_append, data_append, dpS_list, dpE_list]; exact deep_two
      have hs1 := dpS_size 39
      have hs2 := dpE_size 39
      obtain ⟨S, hS⟩ : ∃ S, dpS 39 = S := ⟨_, rfl⟩
      obtain ⟨E, hE⟩ : ∃ E, dpE 39 = E := ⟨_, rfl⟩
      rw [hS] at hp1 hp2 hs1 ⊢
      rw [hE] at hp1 hp2 hs2 ⊢
      clear hS hE
      have hz1 : (⟨#[91, 98, 93]⟩ : ByteArray).size = 3 := rfl
      have hz2 : (⟨#[91, 98, 45, 45, 91, 99, 93, 93]⟩ : ByteArray).size = 8 := rfl
      have HP1 := Lib.hid (fun w hK => parse_er ea (S ++ ⟨#[91, 98, 93]⟩ ++ E) 0 (by rw [ByteArray.size_append, ByteArray.size_append, hz1]; omega) w hK _ hp1)
      have HP2 := Lib.hid (fun w hK => parse_er ea (S ++ ⟨#[91, 98, 45, 45, 91, 99, 93, 93]⟩ ++ E) 0 (by rw [ByteArray.size_append, ByteArray.size_append, hz2]; omega) w hK _ hp2)
      have i1 : (S.size : Int) = 156 := by omega
      have i2 : (E.size : Int) = 39 := by omega
      have HO := Lib.hid hO
      have hss := same_set O
      simp only [pS, pN, pE] at HP1 HP2
      clear h1 hp1 hp2 hO hz1 hz2 hlt hk
      go_wp2_with fail
      refine (HP1.out _ HK.out).mono ?_
      rintro e w1 ⟨v1, rfl, hv1, hx1⟩
      obtain rfl : v1 = .nilIface := hv1
      have hx2 : Ext wr (w1.alloc (.cells (svs O) 27)) := bel_alloc hx1 (Below.refl _ _) _
      have HE2 := Lib.hid hx2
      have HB2 := Lib.hid (Blk.new w1 (svs O) 27)
      clear hx1 hx2 HP1
      go_wp2_with fail
      generalize hp1 : w1.heap.size = p1 at HB2 ⊢
      clear hp1
      generalize w1.alloc (.cells (svs O) 27) = w2 at HE2 HB2 ⊢
      refine (HP2.out w2 (HK.out.ext HE2.out)).mono ?_
      rintro e w3 ⟨v3, rfl, hv3, hx3⟩
      have hx4 : Ext w2 (w3.alloc (.cells zerS 27)) := bel_alloc hx3 (Below.refl _ _) _
      have HE4 := Lib.hid (bel_call HE2.out hx4)
      have HB4 := Lib.hid (HB2.out.ext hx4)
      have HV4 := Lib.hid (hv3.ext (show Ext w3 (w3.alloc (.cells zerS 27)) from by (repeat' (first | (with_reducible exact Below.refl _ _) | (with_reducible assumption) | (with_reducible refine below_drewN ?_ _) | (with_reducible refine Below.alloc ?_ ?_ _) | (with_reducible refine Below.drew ?_) | (with_reducible refine Below.setCell ?_ ?_ _) | (with_reducible refine Below.trans ?_ (Below.mono (by with_reducible assumption) ?_)) | go_size))))
      clear hv3 hx3 hx4 HP2 HB2 HE2
      rw [sv_zero]
      go_wp2_with fail
      generalize w3.alloc (.cells zerS 27) = w4 at HE4 HB4 HV4 ⊢
      refine G.wp_region_stab (G := Ext) (RsB 14 [97]) (by kernel_rfl) (by kernel_rfl) (RsB_mono _ _) (fun hex => ?_)
      iterate 13
        (refine G.wpS_one (A := ?_) hex rfl rfl (by simp) ?_ ?_ ?_
         rotate_left 2
         · intro w' hC K hK
           go_wp2_with (fail)
           refine hK _ ?_
           first | exact Below.refl _ _ | assumption | ((repeat' (first | (with_reducible exact Below.refl _ _) | (with_reducible assumption) | (with_reducible refine below_drewN ?_ _) | (with_reducible refine Below.alloc ?_ ?_ _) | (with_reducible refine Below.drew ?_) | (with_reducible refine Below.setCell ?_ ?_ _) | (with_reducible refine Below.trans ?_ (Below.mono (by with_reducible assumption) ?_)) | go_size)))
         rotate_left 1
         · rfl
         clear hex; intro hex)
      refine G.wpS_one (A := ?_) hex rfl rfl (by simp) ?_ ?_ ?_
      rotate_left 2
      · intro w' hC K hK
        obtain ⟨b0, b1, b2, b3⟩ := (HB4.out.ext hC.1).cells4
        go_wp2_with (fail)
        refine hK _ ?_
        first | exact Below.refl _ _ | assumption | ((repeat' (first | (with_reducible exact Below.refl _ _) | (with_reducible assumption) | (with_reducible refine below_drewN ?_ _) | (with_reducible refine Below.alloc ?_ ?_ _) | (with_reducible refine Below.drew ?_) | (with_reducible refine Below.setCell ?_ ?_ _) | (with_reducible refine Below.trans ?_ (Below.mono (by with_reducible assumption) ?_)) | go_size)))
      rotate_left 1
      · rfl
      clear hex; intro hex
      refine G.wpS_rel (fun v w => Bytes w v [97]) rfl rfl (by simp) (by first | rfl | (simp [Region.wanted, yielded]; done)) ?_ ?_
      · intro w' hC K hK
        simp only [Act.put, List.setIfInBounds_toArray, List.set_cons_succ, List.set_cons_zero] at hK
        go_wp2_with (fail)
        refine hK _ _ ?_ ?_
        · first | exact Below.refl _ _ | assumption | ((repeat' (first | (with_reducible exact Below.refl _ _) | (with_reducible assumption) | (with_reducible refine below_drewN ?_ _) | (with_reducible refine Below.alloc ?_ ?_ _) | (with_reducible refine Below.drew ?_) | (with_reducible refine Below.setCell ?_ ?_ _) | (with_reducible refine Below.trans ?_ (Below.mono (by with_reducible assumption) ?_)) | go_size)))
        · exact bytes_of_blk [97] (Blk.new _ _ _) (by decide)
      clear hex
      intro v1 w' hex hv1
      replace hex := Exists.intro w' hex
      simp only [Act.put, List.setIfInBounds_toArray, List.set_cons_succ, List.set_cons_zero]
      refine G.wpS_one (A := ?_) hex rfl rfl (by simp) ?_ ?_ ?_
      rotate_left 2
      · intro w' hC K hK
        have hb := (hC.2 14 (by simp [Region.binds])).1 rfl
        go_wp2_with (refine (of_is v1 [97] O _ hb HO.out).mono ?_; rintro e w5 ⟨rfl, hE5⟩)
        refine hK _ ?_
        first | exact Below.refl _ _ | assumption | ((repeat' (first | (with_reducible exact Below.refl _ _) | (with_reducible assumption) | (with_reducible refine below_drewN ?_ _) | (with_reducible refine Below.alloc ?_ ?_ _) | (with_reducible refine Below.drew ?_) | (with_reducible refine Below.setCell ?_ ?_ _) | (with_reducible refine Below.trans ?_ (Below.mono (by with_reducible assumption) ?_)) | go_size)))
      rotate_left 1
      · rfl
      clear hex; intro hex
      clear hv1
      iterate 2
        (refine G.wpS_one (A := ?_) hex rfl rfl (by simp) ?_ ?_ ?_
         rotate_left 2
         · intro w' hC K hK
           go_wp2_with (fail)
           refine hK _ ?_
           first | exact Below.refl _ _ | assumption | ((repeat' (first | (with_reducible exact Below.refl _ _) | (with_reducible assumption) | (with_reducible refine below_drewN ?_ _) | (with_reducible refine Below.alloc ?_ ?_ _) | (with_reducible refine Below.drew ?_) | (with_reducible refine Below.setCell ?_ ?_ _) | (with_reducible refine Below.trans ?_ (Below.mono (by with_reducible assumption) ?_)) | go_size)))
         rotate_left 1
         · rfl
         clear hex; intro hex)
      refine G.wpS_nil fun w5 hAll => ?_
      have HE5 := Lib.hid (bel_call HE4.out hAll.1)
      have HV5 := Lib.hid (HV4.out.ext hAll.1)
      clear hAll hex HE4 HB4 HV4
      have HSM := Lib.hid (same_er ea v3 (.agg #[.int .i64 4, .int .i64 0, .int .i64 0, .int .i64 160, .slice none 0 0]) (some (2, 160)) w5 (HK.out.ext HE5.out) HV5.out ⟨_, rfl, Texts.nil _⟩)
      go_wp2_with fail
      refine HSM.out.mono ?_
      rintro e w6 ⟨rfl, hx6⟩
      have HE6 := Lib.hid (bel_call HE5.out hx6)
      clear hx6 HSM HV5 HE5
      go_wp2_with fail
      refine (wakes_any (ea 1) (ea 2) w6 (HK.out.ext HE6.out).tab (HK.out.ext HE6.out).kn).mono ?_
      rintro e w7 ⟨rfl, hx7⟩
      have HE7 := Lib.hid (bel_call HE6.out hx7)
      clear hx7 HE6
      go_wp2_with fail
      go_ret
      exact ⟨rfl, HE7.out⟩
end Go.Proofs.YtgcfilgobclcjaaGreatDoor
namespace Go.Proofs.YtgcfilgobclcjaaGreatDoor
open Go Go.ChangeShapes Go.WideShapes Go.ChangeAt Go.RowKit
theorem classDeep_met (os : Os) (args : Array Value) : laidMetH Tryz.prog Rows.classDeepRow.laid ((World.doorLaid Tryz.prog 400 os).forCall (fun _ _ => 0) ⟨#[], args, []⟩).memory :=
  laidMetH_of_parts (laidMet_of_run' 8 (by kernel_rfl) (by kernel_rfl)) (by kernel_rfl)
set_option maxRecDepth 100000 in
theorem classDeep_lifted (os : Os) (started : os.Started) (H : Type) (enc : TypeId × Value → H) (F : Stop.Interp) :
    ReturnsInHanded {} Tryz.checked os 7 .any ((OpenSpec.ofChange Rows.classDeepSpec).preRow enc Tryz.prog Tryz.f7 Rows.classDeepRow.domain false Rows.classDeepRow.laid) (((OpenSpec.ofChange Rows.classDeepSpec).at F).post enc Tryz.prog Tryz.f7 false true false false) := by
  have hx : DataW.whole enc Tryz.prog ((World.doorLaid Tryz.prog 400 os).forCall (fun _ _ => 0) ⟨#[], #[], []⟩).memory Tryz.f7.params.toList (OpenSpec.ofChange Rows.classDeepSpec).vars false (#[] : Array Value).toList 8 = some ([], [], []) := by kernel_rfl
  refine returnsInHanded_of_row (C := Tryz.checked) (s := OpenSpec.ofChange Rows.classDeepSpec) own started (by kernel_rfl) Tryz.func7
    (witness_row_atRef (enc := enc) (C := Tryz.checked) false (World.doorLaid Tryz.prog 400 os) #[] rfl (by kernel_rfl) (by kernel_rfl) (by kernel_rfl)
      (OpenSpec.preRow_of_cond 8 hx (by kernel_rfl) (fun k hk => by cases hk) (by kernel_rfl) (classDeep_met os _))) ?_
  intro W base args ds gs before hval0 hW _ _ _hsz0 hL hsh _
  have hW' := hW
  obtain ⟨p, q, hA0, hV, rfl, hfz, hnd⟩ := hW
  have hA : DataW.TrodAll enc Tryz.prog W 0 (fun _ => true) true Tryz.f7.params.toList args.toList ds p := hA0
  rw [Tryz.params7] at hA
  obtain ⟨ha, rfl, rfl⟩ := trodAll_nil hA
  obtain rfl : args = #[] := by cases args; simp_all
  obtain ⟨rfl, rfl⟩ := trodVars_none hV
  obtain ⟨ea, hK⟩ := known_great hL hsh
  refine (deep_any ea W hK).mono fun e W' ⟨he, hB⟩ => ?_
  subst he
  have e1 : ((OpenSpec.ofChange Rows.classDeepSpec).at F).fn H ([] ++ []) = { results := [.lit (.bool true)], args := [] } := rfl
  refine ⟨_, rfl, _, _, _, [], [], [], hW', ?_, ?_, ?_, hB.frame _, fun h => by cases h⟩
  · rw [e1]; exact trodAll_mk1 (shut_bool Tryz.underlying4 true)
  · rw [e1]; exact hA0
  · rw [e1]; rfl
theorem classDeep_row : Rows.ClassDeepSaid :=
  OpenClaim.holds_of_cond 7 Tryz.f7 rfl rfl rfl rfl rfl rfl rfl ⟨rfl, rfl, rfl, rfl, rfl⟩ rfl rfl rfl rfl rfl (by kernel_rfl) Tryz.func7 (by kernel_rfl)
    (of_decide_eq_true (by kernel_rfl)) (by unfold Func.isWrapper; rw [if_neg (of_decide_eq_false (by kernel_rfl))]; exact ⟨rfl, rfl⟩)
    (fun os started H enc _ F => by rw [OpenClaim.pre_eq_preRow]; exact classDeep_lifted os started H enc F)
theorem classDeep_holds : Rows.ClassDeepCardSaid :=
  Claim7.holds_tied_plain_at .later [] _ _ Rows.classDeepCard.stood.harness Rows.classDeepCard.stood.looks
    classDeep_row (fun _ h => by cases h) (by kernel_rfl) (fun _ h => by cases h) classDeep_row_tie rfl ⟨rfl, rfl⟩ (by kernel_rfl) rfl
    (fun f fn hf hfn => by
      obtain rfl : f = 7 := Option.some.inj ((show Tryz.prog.funcNamed Rows.classDeepRow.func = some 7 by kernel_rfl).symm.trans hf) |>.symm
      obtain rfl : fn = Tryz.f7 := (Option.some.inj (Tryz.func7.symm.trans hfn)).symm
      exact ⟨by kernel_rfl, fun j t ht => by
        rw [Tryz.params7] at ht
        simp at ht⟩)
    (by kernel_rfl)
#print axioms classDeep_holds
end Go.Proofs.YtgcfilgobclcjaaGreatDoor
