/- LexCut returns true for every text, and leaves what it read as it was: on the conditions that the errors and the tables which the card ties to the program's text stand in their variables when the call begins. -/
import Derived.Test.YtnecafokkhhhhaaDoorEqx
import Derived.Test.YtnecafokkhhhhaaDoorCt
import Derived.Test.YtnecafokkhhhhaaDoorKno
namespace Go.Proofs.YtnecafokkhhhhaaDoor
open Go Go.RowKit
theorem eqlex_n (a b : Option Addr) (c1 c2 n : Nat) (L : List Lxm) (hn : L.length = n) (w : World) (h1 : Lxv w a L) (h2 : Lxv w b L) (hl : n ≤ 9223372036854775806) :
    Calls Tryd.prog 9 #[.slice a n c1, .slice b n c2] w fun e w' => e = .returned (.bool true) ∧ Ext w w' := by
  subst hn; exact eqlex_any a b c1 c2 L w h1 h2 hl
theorem lex_cut (s : ByteArray) (hs : s.size ≤ 6000) (es ed : Addr) (L : List Lxm) (r : Option (Bool × Nat)) (hx : lxs s.size (rest s 0) 0 = (L, r)) (k : Nat) (hk : k < L.length) (w : World) (hK : Kn w es ed) :
    Calls Tryd.prog 7 #[.string (s.extract 0 L[k].e)] w fun e w' => LexRes w w' es ed e (L.take (k + 1)) none := by
  have hrl := rest_len (show 0 ≤ s.size by omega)
  have hb := (lxs_bnd s.size (rest s 0) 0).1 L[k] (by rw [hx]; exact List.getElem_mem hk)
  have hsz : (s.extract 0 L[k].e).size = L[k].e := by rw [ByteArray.size_extract]; omega
  have hre : rest (s.extract 0 L[k].e) 0 = (rest s 0).take L[k].e := by
    have := ext_lst s 0 L[k].e
    rw [Nat.zero_add] at this
    exact this
  refine lex_any (s.extract 0 L[k].e) (by omega) es ed w hK _ _ ?_
  have hc := lxs_cut s.size (rest s 0) 0 k L[k] (by rw [hx]; exact List.getElem?_eq_getElem hk) L[k].e (by omega)
  rw [hsz, hre]
  rw [Nat.sub_zero, hx] at hc
  exact hc
set_option maxHeartbeats 4000000 in
set_option maxRecDepth 20000 in
theorem lcut_any (s : ByteArray) (es ed : Addr) (w : World) (hK : Kn w es ed) :
    Calls Tryd.prog 5 #[.string s] w fun e w' => e = .returned (.bool true) ∧ Ext w w' := by
  have HK := Lib.hid hK
  clear hK
  by_cases h6 : 6000 < s.size
  · have d1 : decide ((6000 : Int) < (s.size : Int)) = true := by simp; omega
    have d1n : decide (6000 < s.size) = true := by simp; omega
    clear h6
    go_enter Tryd.func5, Tryd.ntmps5
    go_wp2_with fail
    refine (lwakes_any es ed _ HK.out).mono ?_
    rintro e w1 ⟨rfl, hx⟩
    have HX := Lib.hid hx
    clear hx
    go_wp2_with fail
    go_ret
    exact ⟨rfl, HX.out⟩
  · have d1 : decide ((6000 : Int) < (s.size : Int)) = false := by simp; omega
    have d1n : decide (6000 < s.size) = false := by simp; omega
    obtain ⟨⟨L, r⟩, hx⟩ : ∃ x, lxs s.size (rest s 0) 0 = x := ⟨_, rfl⟩
    have hrl := rest_len (show 0 ≤ s.size by omega)
    have HBN := Lib.hid (show ∀ k (h : k < L.length), L[k].e ≤ s.size from fun k h => by
      have := (lxs_bnd s.size (rest s 0) 0).1 L[k] (by rw [hx]; exact List.getElem_mem h)
      omega)
    have HLX := Lib.hid (fun w hK => lex_any s (by omega) es ed w hK L r hx)
    have HCT := Lib.hid (fun k hk w hK => lex_cut s (by omega) es ed L r hx k hk w hK)
    have hs6 : s.size ≤ 6000 := by omega
    clear hx hrl h6
    go_enter Tryd.func5, Tryd.ntmps5
    go_wp2_with fail
    refine (HLX.out _ HK.out).mono ?_
    rintro e w1 ⟨v, u, rfl, hown, _, hx1⟩
    obtain ⟨a, ca, rfl, hlx, hca, _⟩ := own_list hown
    have HO := Lib.hid hlx
    have HE := Lib.hid hx1
    have HK1 := Lib.hid (HK.out.ext hx1)
    have HCA := Lib.hid hca
    clear hown hlx hx1 HLX HK hca
    go_wp2_with fail
    clear d1 d1n
    go_loopw [5] (fun i wr => ∃ k : Nat, k ≤ L.length ∧ k ≤ 60 ∧ i = .int .i64 k ∧ Hid (Ext w1 wr)) (fun i _ => L.length - (intOf i).toNat)
    case atStart => exact ⟨0, Nat.zero_le _, by omega, rfl, Lib.hid (Below.refl _ _)⟩
    case round =>
      obtain ⟨k, hk, hk60, rfl, hEr⟩ := hrel
      have HKr := Lib.hid (HK1.out.ext hEr.out)
      by_cases hkl : k < L.length
      · have d1 : decide ((k : Int) < (L.length : Int)) = true := by simp; omega
        by_cases hkc : k < 60
        · have d2 : decide ((k : Int) < 60) = true := by simp; omega
          have d2n : decide (k < 60) = true := by simp; omega
          obtain ⟨g, rfl, hg⟩ := HO.out (by omega)
          have hgr := hg.ext hEr.out
          have c2 : wr.cell? ⟨g, k * 9 + 2, none⟩ = some (.int .i64 (L[k].e : Int)) := hgr.2 k hkl 2 (by decide)
          have hLe := HBN.out k hkl
          obtain ⟨M, hM⟩ : ∃ M, L.take (k + 1) = M := ⟨_, rfl⟩
          have hMl : M.length = k + 1 := by rw [← hM, List.length_take]; omega
          have HTR := Lib.hid (HCT.out k hkl)
          rw [hM] at HTR
          have HOM := Lib.hid (show Lxv wr (some ⟨g, 0, none⟩) M from by rw [← hM]; exact (HO.out.ext hEr.out).take (k + 1))
          obtain ⟨q, hq⟩ : ∃ q, L[k].e = q := ⟨_, rfl⟩
          rw [hq] at c2 HTR hLe
          have hcak : k + 1 ≤ ca := by have := HCA.out; omega
          clear hM hq hg hgr
          go_wp2_with fail
          refine (HTR.out _ HKr.out).mono ?_
          rintro e w2 ⟨v, u, rfl, hown2, rfl, hx2⟩
          obtain ⟨b, cb, rfl, hlx2, hcb, _⟩ := own_list hown2
          rw [hMl]
          have HQ := Lib.hid (eqlex_n b (some ⟨g, 0, none⟩) cb ca (k + 1) M hMl w2 hlx2 (HOM.out.ext hx2) (by omega))
          have HE2 := Lib.hid (bel_call hEr.out hx2)
          clear hown2 hlx2 hx2 HOM HTR hMl c2 hcb
          go_wp2_with fail
          refine HQ.out.mono ?_
          rintro e w3 ⟨rfl, hx3⟩
          have HE3 := Lib.hid (bel_call HE2.out hx3)
          clear hx3 HQ HE2
          go_wp2_with fail
          go_roundw
          case rel => exact ⟨k + 1, by omega, by omega, by go_num, HE3⟩
          case measure => simp [intOf]; omega
        · have d2 : decide ((k : Int) < 60) = false := by simp; omega
          have d2n : decide (k < 60) = false := by simp; omega
          go_wp2_with fail
          refine (lwakes_any es ed _ HKr.out).mono ?_
          rintro e w2 ⟨rfl, hx2⟩
          have HX := Lib.hid (bel_call (bel_call HE.out hEr.out) hx2)
          clear hx2
          go_wp2_with fail
          go_ret
          exact ⟨rfl, HX.out⟩
      · have d1 : decide ((k : Int) < (L.length : Int)) = false := by simp; omega
        go_wp2_with fail
        refine (lwakes_any es ed _ HKr.out).mono ?_
        rintro e w2 ⟨rfl, hx2⟩
        have HX := Lib.hid (bel_call (bel_call HE.out hEr.out) hx2)
        clear hx2
        go_wp2_with fail
        go_ret
        exact ⟨rfl, HX.out⟩
end Go.Proofs.YtnecafokkhhhhaaDoor
namespace Go.Proofs.YtnecafokkhhhhaaDoor
open Go Go.ChangeShapes Go.WideShapes Go.ChangeAt Go.RowKit
theorem lexCut_met (os : Os) (args : Array Value) : laidMetH Tryd.prog Rows.lexCutRow.laid ((World.doorLaid Tryd.prog 400 os).forCall (fun _ _ => 0) ⟨#[], args, []⟩).memory :=
  laidMetH_of_parts (laidMet_of_run' 8 (by kernel_rfl) (by kernel_rfl)) (by kernel_rfl)
set_option maxRecDepth 100000 in
theorem lexCut_contract {H : Type} {enc : TypeId × Value → H} (F : Stop.Interp) (W : World) (base : Nat) (args : Array Value) (ds gs : List (DataW H)) (before : List MemPlace)
    (hval0 : ∀ (j : Nat) t v, Tryd.f5.params[j]? = some t → args[j]? = some v → Value.okWide Tryd.prog W .any base t v)
    (hW : DataW.Whole enc Tryd.prog Tryd.f5.params.toList (OpenSpec.ofChange Rows.lexCutSpec).vars false W args.toList ds gs before)
    (hsz : (DataW.weightsEach Tryd.prog (Tryd.f5.params.toList ++ (OpenSpec.ofChange Rows.lexCutSpec).bare.plain.varTypes Tryd.prog) (ds ++ gs)).all (· ≤ reachBytes) = true)
    (hL : laidMetH Tryd.prog Rows.lexCutRow.laid W) (hsh : W.ShapedOpen Tryd.prog) :
    Calls Tryd.prog 5 args W fun e W' => ∃ v, e = .returned v ∧ ((OpenSpec.ofChange Rows.lexCutSpec).at F).post enc Tryd.prog Tryd.f5 false true false false W args v W' := by
  have hval : ∀ (j : Nat) t v, Tryd.f5.params[j]? = some t → args[j]? = some v → Value.okWide Tryd.prog W .any base t v := hval0
  have hW' := hW
  obtain ⟨p, q, hA0, hV, rfl, hfz, hnd⟩ := hW
  have hA : DataW.TrodAll enc Tryd.prog W 0 (fun _ => true) true Tryd.f5.params.toList args.toList ds p := hA0
  rw [Tryd.params5] at hA hval
  obtain ⟨v0, d0, rfl, rfl, h0⟩ := trodAll_one hA
  obtain ⟨rfl, rfl⟩ := trodVars_none hV
  have hlt : ∀ x ∈ p, x.block < W.heap.size := fun x hx => hW'.lt x (by simp [hx])
  have hwt : ∀ n ∈ d0.weights Tryd.prog 9, n ≤ reachBytes := fun n hn => by simpa using List.all_eq_true.1 hsz n (DataW.weights_mem_each (j := 0) rfl rfl n hn)
  obtain ⟨hT, es, ed, hK⟩ := known_door hL (by kernel_rfl) hsh (List.mem_of_getElem? (i := 1) (by kernel_rfl)) (List.mem_of_getElem? (i := 6) (by kernel_rfl)) (List.mem_of_getElem? (i := 7) (by kernel_rfl)) (List.mem_of_getElem? (i := 4) (by kernel_rfl))
  obtain ⟨s, rfl⟩ := okWide_string Tryd.underlying9 (hval 0 _ v0 rfl rfl)
  refine (lcut_any s es ed W hK).mono fun e W' ⟨he, hB⟩ => ?_
  subst he
  have e1 : ((OpenSpec.ofChange Rows.lexCutSpec).at F).fn H ([d0] ++ []) = { results := [.lit (.bool true)], args := [d0] } := rfl
  refine ⟨_, rfl, _, _, _, [], p, [], hW', ?_, ?_, ?_, hB.frame _, fun h => by cases h⟩
  · rw [e1]; exact trodAll_mk1 (shut_bool Tryd.underlying4 true)
  · rw [e1]; exact trodAll_mk1 (Below.trod laidOut (by kernel_rfl) (of_decide_eq_true (by kernel_rfl)) h0 hB hlt)
  · rw [e1]; rfl
set_option maxRecDepth 100000 in
theorem lexCut_lifted (os : Os) (started : os.Started) (H : Type) (enc : TypeId × Value → H) (F : Stop.Interp) :
    ReturnsInHanded {} Tryd.checked os 5 .any ((OpenSpec.ofChange Rows.lexCutSpec).preRow enc Tryd.prog Tryd.f5 Rows.lexCutRow.domain false Rows.lexCutRow.laid) (((OpenSpec.ofChange Rows.lexCutSpec).at F).post enc Tryd.prog Tryd.f5 false true false false) := by
  have hx : DataW.whole enc Tryd.prog ((World.doorLaid Tryd.prog 400 os).forCall (fun _ _ => 0) ⟨#[], #[.string ⟨#[]⟩], []⟩).memory Tryd.f5.params.toList (OpenSpec.ofChange Rows.lexCutSpec).vars false (#[.string ⟨#[]⟩] : Array Value).toList 8 = some ([.lit (.string [])], [], []) := by kernel_rfl
  refine returnsInHanded_of_row (C := Tryd.checked) (s := OpenSpec.ofChange Rows.lexCutSpec) own started (by kernel_rfl) Tryd.func5
    (witness_row_atRef (enc := enc) (C := Tryd.checked) false (World.doorLaid Tryd.prog 400 os) #[.string ⟨#[]⟩] rfl (by kernel_rfl) (by kernel_rfl) (by kernel_rfl)
      (OpenSpec.preRow_of_cond 8 hx (by kernel_rfl) (fun k hk => by cases hk) (by kernel_rfl) (lexCut_met os _))) ?_
  intro W base args ds gs before hval hW _ _ hsz hL hsh _
  exact lexCut_contract F W base args ds gs before hval hW hsz hL hsh
theorem lexCut_row : Rows.LexCutSaid :=
  OpenClaim.holds_of_cond 5 Tryd.f5 rfl rfl rfl rfl rfl rfl rfl ⟨rfl, rfl, rfl, rfl, rfl⟩ rfl rfl rfl rfl rfl (by kernel_rfl) Tryd.func5 (by kernel_rfl)
    (of_decide_eq_true (by kernel_rfl)) (by unfold Func.isWrapper; rw [if_neg (of_decide_eq_false (by kernel_rfl))]; exact ⟨rfl, rfl⟩)
    (fun os started H enc _ F => by rw [OpenClaim.pre_eq_preRow]; exact lexCut_lifted os started H enc F)
theorem lexCut_holds : Rows.LexCutCardSaid :=
  Claim7.holds_tied_plain_at .later [] _ _ Rows.lexCutCard.stood.harness Rows.lexCutCard.stood.looks
    lexCut_row (fun _ h => by cases h) (by kernel_rfl) (fun _ h => by cases h) lexCut_row_tie rfl ⟨rfl, rfl⟩ (by kernel_rfl) rfl
    (fun f fn hf hfn => by
      obtain rfl : f = 5 := Option.some.inj ((show Tryd.prog.funcNamed Rows.lexCutRow.func = some 5 by kernel_rfl).symm.trans hf) |>.symm
      obtain rfl : fn = Tryd.f5 := (Option.some.inj (Tryd.func5.symm.trans hfn)).symm
      exact ⟨by kernel_rfl, fun j t ht => by
        rw [Tryd.params5] at ht
        have hm : t ∈ [9] := by simpa using Array.mem_of_getElem? ht
        have hall : ([9].all fun u => !Tryd.prog.wantsStandIn u) = true := by kernel_rfl
        exact (show Tryd.prog.wantsStandIn t = false by simpa using List.all_eq_true.1 hall t hm)⟩)
    (by kernel_rfl)
#print axioms lexCut_holds
end Go.Proofs.YtnecafokkhhhhaaDoor
