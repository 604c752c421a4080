/- ClassEscapes: the walk. -/
import Derived.Test.YtgfbbblbglpccaaDoorAlp
import Derived.Test.YtgfbbblbglpccaaDoorChr
import Derived.Deep.Cut
import Derived.Deep.CutRange
namespace Go.Proofs.YtgfbbblbglpccaaDoor
open Go Go.RowKit
abbrev smallD : ByteArray := ⟨#[48, 49, 50, 51, 52, 53, 54, 55, 56, 57, 97, 98, 99, 100, 101, 102]⟩
abbrev greatD : ByteArray := ⟨#[48, 49, 50, 51, 52, 53, 54, 55, 56, 57, 65, 66, 67, 68, 69, 70]⟩
/-- The escape of byte k, by two digits. -/
def escL (k : Nat) : List UInt8 := [92, 120] ++ (smallD.data.toList.drop (k / 16)).take 1 ++ (greatD.data.toList.drop (k % 16)).take 1
def esc1 (k : Nat) : Bool := decide (prL ([91] ++ escL k ++ [93]) = .inr (ofl [UInt8.ofNat k], 6)) && decide (quq unq ([34] ++ escL k ++ [34]) 0 = .inr ([UInt8.ofNat k], 6)) && decide ((escL k).length = 4)
theorem esc1_all : (List.range 256).all esc1 = true := by decide +kernel
def okE (k : Nat) : Bool := match prL [91, 92, UInt8.ofNat k, 93] with
  | .inr _ => true
  | .inl _ => false
def knownB (k : Nat) : Bool := k == 110 || k == 116 || k == 114 || k == 118 || k == 102 || k == 97 || k == 98 || k == 101 || k == 48
def letterB (k : Nat) : Bool := (decide (97 ≤ k) && decide (k ≤ 122)) || (decide (65 ≤ k) && decide (k ≤ 90)) || (decide (48 ≤ k) && decide (k ≤ 57))
theorem okE_all : (List.range 256).all (fun k => okE k == (knownB k || (decide (33 ≤ k) && decide (k ≤ 126) && !letterB k))) = true := by decide +kernel
theorem ext_one (T : ByteArray) (i : Nat) : (T.extract i (i + 1)).data.toList = (T.data.toList.drop i).take 1 := by
  rw [ByteArray.data_extract, Array.toList_extract, List.extract_eq_take_drop]
  congr 1
  omega
theorem unquote_of (s : ByteArray) (l : List UInt8) (hl : s.data.toList = l) (hn : l.length ≤ 100000) (A : List UInt8) (m : Nat) (h : quq unq l 0 = .inr (A, m)) (es ed : Addr) (w : World) (hK : Kn w es ed) :
    Calls Tryd.prog 15 #[.string s, .int .i64 0] w fun e w' => e = .returned (.tuple #[.string ⟨A.toArray⟩, .int .i64 m, .nilIface]) ∧ Ext w w' := by
  have hs : s.size = l.length := by rw [← hl, Array.length_toList]; rfl
  have hp : pos s 0 = 0 := by
    unfold pos
    split
    · omega
    · rfl
  exact unquote_any s 0 es ed (by omega) w hK (.inr (A, m)) (by unfold uqs; rw [hp]; show quq unq s.data.toList 0 = _; rw [hl]; exact h)
theorem conv1 (w : World) (k : Nat) (hk : k < 256) : (convert 46 9 (.slice (some ⟨w.heap.size, 0, none⟩) 1 1)).run Tryd.prog (w.alloc (.cells #[.int .u8 (k : Int)] 5)) = .ok (.string ⟨#[UInt8.ofNat k]⟩) (w.alloc (.cells #[.int .u8 (k : Int)] 5)) := by
  have h := own_new1 w (.int .u8 (k : Int))
  have e : ([UInt8.ofNat k].map ub) = [.int .u8 (k : Int)] := by
    simp only [List.map_cons, List.map_nil, ub]
    rw [UInt8.toNat_ofNat_of_lt' (by omega)]
  exact own_str (L := [UInt8.ofNat k]) (by rw [e]; exact h)
theorem parse_esc (k : Nat) (es ed : Addr) (w : World) (hK : Kn w es ed) : Calls Tryd.prog 14 #[.string (⟨#[91, 92]⟩ ++ ⟨#[UInt8.ofNat k]⟩ ++ ⟨#[93]⟩), .int .i64 0] w fun e w' => ∃ (S : BitVec 256) (n : Int) (v : Value), e = .returned (.tuple #[sv S, .int .i64 n, v]) ∧ Ext w w' ∧ ((v = .nilIface ∧ okE k = true) ∨ ((∃ p, v = .iface 91 (.pointer (some ⟨p, 0, none⟩))) ∧ okE k = false)) := by
  obtain ⟨x, hx⟩ : ∃ x, prL [91, 92, UInt8.ofNat k, 93] = x := ⟨_, rfl⟩
  have hl : ((⟨#[91, 92]⟩ : ByteArray) ++ ⟨#[UInt8.ofNat k]⟩ ++ ⟨#[93]⟩).data.toList = [91, 92, UInt8.ofNat k, 93] := by rw [data_append, data_append]; rfl
  have hp : prs (⟨#[91, 92]⟩ ++ ⟨#[UInt8.ofNat k]⟩ ++ ⟨#[93]⟩) 0 = x := by rw [prs_zero, hl]; exact hx
  have hs : ((⟨#[91, 92]⟩ : ByteArray) ++ ⟨#[UInt8.ofNat k]⟩ ++ ⟨#[93]⟩).size ≤ 4294967000 := by rw [ByteArray.size_append, ByteArray.size_append]; show 2 + 1 + 1 ≤ _; omega
  refine (parse_any _ 0 es ed hs w hK x hp).mono ?_
  intro e w' h
  cases x with
  | inl x =>
    obtain ⟨b, q⟩ := x
    obtain ⟨v, rfl, ⟨p, tp, rfl, _⟩, hx'⟩ := h
    exact ⟨0#256, 0, _, by rw [sv_zero], hx', .inr ⟨⟨p, rfl⟩, by unfold okE; rw [hx]⟩⟩
  | inr x =>
    obtain ⟨S, m⟩ := x
    obtain ⟨rfl, hx'⟩ := h
    exact ⟨S, m, _, rfl, hx', .inl ⟨rfl, by unfold okE; rw [hx]⟩⟩
set_option maxHeartbeats 4000000 in
set_option maxRecDepth 20000 in
theorem escapes_any (es ed : Addr) (w : World) (hT : Tab w) (hK : Kn w es ed) :
    Calls Tryd.prog 6 #[] w fun e w' => e = .returned (.bool true) ∧ Below w.heap.size w w' := by
  have HT := Lib.hid hT
  have HK := Lib.hid hK
  clear hT hK
  go_enter Tryd.func6, Tryd.ntmps6
  go_wp2_with fail
  go_loopw [3] (fun i wr => ∃ k : Nat, k ≤ 256 ∧ i = .int .i64 k ∧ Hid (Ext w wr)) (fun i _ => 256 - (intOf i).toNat)
  case atStart => exact ⟨0, by omega, rfl, Lib.hid (Below.refl _ _)⟩
  case round =>
    obtain ⟨k, hk, rfl, hE⟩ := hrel
    by_cases hlt : k < 256
    · go_wp2_with fail
      refine G.wp_region_stab (G := Ext) (fun _ => none) (by kernel_rfl) (by kernel_rfl) (fun _ _ h => by cases h) (fun hex => ?_)
      iterate 17
        (refine G.wpS_one (A := ?_) hex rfl rfl (by simp) ?_ ?_ ?_
         rotate_left 2
         · intro w' hC K hK
           go_wp2_with (fail)
           refine hK _ ?_
           first | exact Below.refl _ _ | assumption | ((repeat' (first | (with_reducible exact Below.refl _ _) | (with_reducible assumption) | (with_reducible refine below_drewN ?_ _) | (with_reducible refine Below.alloc ?_ ?_ _) | (with_reducible refine Below.drew ?_) | (with_reducible refine Below.setCell ?_ ?_ _) | (with_reducible refine Below.trans ?_ (Below.mono (by with_reducible assumption) ?_)) | go_size)))
         rotate_left 1
         · rfl
         clear hex; intro hex)
      refine G.wpS_nil fun w1 hAll => ?_
      have hx1 := hAll.1
      clear hAll hex
      obtain ⟨TE, hTE⟩ : ∃ TE : ByteArray, (⟨#[92, 120]⟩ ++ smallD.extract (k / 16) (k / 16 + 1) ++ greatD.extract (k % 16) (k % 16 + 1) : ByteArray) = TE := ⟨_, rfl⟩
      have hTL : TE.data.toList = escL k := by rw [← hTE, data_append, data_append, ext_one, ext_one]; rfl
      rw [hTE]
      have h1 := List.all_eq_true.1 esc1_all k (List.mem_range.2 hlt)
      unfold esc1 at h1
      simp only [Bool.and_eq_true, decide_eq_true_eq] at h1
      obtain ⟨⟨hpr, hqu⟩, hel⟩ := h1
      have hts : TE.size ≤ 4 := by
        have : TE.size = TE.data.toList.length := by rw [Array.length_toList]; rfl
        rw [this, hTL, hel]; omega
      obtain ⟨O, hO⟩ : ∃ O, ofl [UInt8.ofNat k] = O := ⟨_, rfl⟩
      rw [hO] at hpr
      have hwk : IntKind.u8.wrap (k : Int) = k := IntWalk.u8_in _ (by omega)
      have HE1 := Lib.hid (bel_call hE.out hx1)
      have HP := Lib.hid (parse_of (⟨#[91]⟩ ++ TE ++ ⟨#[93]⟩) _ (by rw [data_append, data_append, hTL]) (by simp only [List.length_append, List.length_cons, List.length_nil, hel]; omega) _ 6 hpr es ed w1 (HK.out.ext HE1.out))
      have HU := fun w hK => Lib.hid (unquote_of (⟨#[34]⟩ ++ TE ++ ⟨#[34]⟩) _ (by rw [data_append, data_append, hTL]) (by simp only [List.length_append, List.length_cons, List.length_nil, hel]; omega) _ 6 hqu es ed w hK)
      have HO := Lib.hid hO
      have HTE := Lib.hid hTE
      clear hTE hTL hpr hqu hel hO hx1 hE
      go_wp2_with fail
      refine HP.out.mono ?_
      rintro e w2 ⟨rfl, hx2⟩
      have hx3 : Ext w1 (w2.alloc (.cells (svs O) 29)) := bel_alloc hx2 (Below.refl _ _) _
      have HE3 := Lib.hid (bel_call HE1.out hx3)
      have HB3 := Lib.hid (Blk.new w2 (svs O) 29)
      clear hx2 hx3 HP HE1
      go_wp2_with fail
      generalize hs5 : w2.heap.size = s5 at HB3 ⊢
      generalize w2.alloc (.cells (svs O) 29) = w3 at HE3 HB3 ⊢
      clear hs5
      refine (HU w3 (HK.out.ext HE3.out)).out.mono ?_
      rintro e w4 ⟨rfl, hx4⟩
      have HE4 := Lib.hid (bel_call HE3.out hx4)
      have HB4 := Lib.hid (HB3.out.ext hx4)
      have hof := of_is (.slice (some ⟨w4.heap.size, 0, none⟩) 1 1) [UInt8.ofNat k] O _ (one_byte w4 k 5 hlt) HO.out
      have HF := Lib.hid hof
      clear hx4 hof HU HE3 HB3
      go_wp2_with fail
      refine HF.out.mono ?_
      rintro e w5 ⟨rfl, hx5⟩
      have hx6 : Ext w4 (w5.alloc (.cells (svs O) 29)) := bel_alloc (bel_call (show Ext w4 _ from by (repeat' (first | (with_reducible exact Below.refl _ _) | (with_reducible assumption) | (with_reducible refine below_drewN ?_ _) | (with_reducible refine Below.alloc ?_ ?_ _) | (with_reducible refine Below.drew ?_) | (with_reducible refine Below.setCell ?_ ?_ _) | (with_reducible refine Below.trans ?_ (Below.mono (by with_reducible assumption) ?_)) | go_size))) hx5) (Below.refl _ _) _
      have HE6 := Lib.hid (bel_call HE4.out hx6)
      have HB6 := Lib.hid (HB4.out.ext hx6)
      have HC6 := Lib.hid (Blk.new w5 (svs O) 29)
      have hlt5 := (HB4.out.ext (bel_call (show Ext w4 (w4.alloc (.cells #[.int .u8 (k : Int)] 5)) from by (repeat' (first | (with_reducible exact Below.refl _ _) | (with_reducible assumption) | (with_reducible refine below_drewN ?_ _) | (with_reducible refine Below.alloc ?_ ?_ _) | (with_reducible refine Below.drew ?_) | (with_reducible refine Below.setCell ?_ ?_ _) | (with_reducible refine Below.trans ?_ (Below.mono (by with_reducible assumption) ?_)) | go_size))) hx5)).lt
      obtain ⟨z0, z1, z2, z3⟩ := (HB4.out.ext (bel_call (show Ext w4 (w4.alloc (.cells #[.int .u8 (k : Int)] 5)) from by (repeat' (first | (with_reducible exact Below.refl _ _) | (with_reducible assumption) | (with_reducible refine below_drewN ?_ _) | (with_reducible refine Below.alloc ?_ ?_ _) | (with_reducible refine Below.drew ?_) | (with_reducible refine Below.setCell ?_ ?_ _) | (with_reducible refine Below.trans ?_ (Below.mono (by with_reducible assumption) ?_)) | go_size))) hx5)).cells4
      have hss := same_set O
      have hcv := conv1 (w5.alloc (.cells (svs O) 29)) k hlt
      rw [show (w5.alloc (.cells (svs O) 29)).heap.size = w5.heap.size + 1 by simp] at hcv
      have hx7 : Ext (w5.alloc (.cells (svs O) 29)) ((w5.alloc (.cells (svs O) 29)).alloc (.cells #[.int .u8 (k : Int)] 5)) := by go_grown
      have HE7 := Lib.hid (bel_call HE6.out hx7)
      have HC7 := Lib.hid (HC6.out.ext hx7)
      obtain ⟨c0, c1, c2, c3⟩ := HC7.out.cells4
      clear hx5 hx6 hx7 HE4 HB4 HF HE6 HB6
      go_wp2_with fail
      clear z0 z1 z2 z3 c0 c1 c2 c3 hcv
      generalize hs11 : w5.heap.size = s11 at *
      generalize (w5.alloc (.cells (svs O) 29)).alloc (.cells #[.int .u8 (k : Int)] 5) = w7 at *
      clear hs11 hlt5 HC6
      have htx := text_any O w7 (HT.out.ext HE7.out)
      obtain ⟨TO, hTO⟩ : ∃ TO : ByteArray, (⟨(txt O).toArray⟩ : ByteArray) = TO := ⟨_, rfl⟩
      have hTOl : TO.data.toList = txt O := by rw [← hTO]
      rw [hTO] at htx
      refine htx.mono ?_
      rintro e w8 ⟨rfl, hx8⟩
      have HE8 := Lib.hid (bel_call HE7.out hx8)
      have HC8 := Lib.hid (HC7.out.ext hx8)
      have hlo := txt_len O
      have hpo : prL (txt O) = .inr (O, 0 + (txt O).length) := by
        have h := cls_set O [] ((txt O).length - 1) 0 0 (by omega)
        rw [List.append_nil, show (txt O).length - 1 + 2 = (txt O).length + 1 by omega] at h
        exact h
      have hpp := parse_of TO _ hTOl (by omega) O _ hpo es ed w8 (HK.out.ext HE8.out)
      have HPP := Lib.hid hpp
      clear htx hTO hTOl hx8 hlo hpo hpp HE7 HC7
      go_wp2_with fail
      refine HPP.out.mono ?_
      rintro e w9 ⟨rfl, hx9⟩
      have hx10 : Ext w8 (w9.alloc (.cells (svs O) 29)) := bel_alloc hx9 (Below.refl _ _) _
      have HE9 := Lib.hid (bel_call HE8.out hx10)
      have HC9 := Lib.hid (HC8.out.ext hx10)
      have HD9 := Lib.hid (Blk.new w9 (svs O) 29)
      have hcv := conv1 (w9.alloc (.cells (svs O) 29)) k hlt
      rw [show (w9.alloc (.cells (svs O) 29)).heap.size = w9.heap.size + 1 by simp] at hcv
      clear hx9 hx10 HPP HE8 HC8
      go_wp2_with fail
      have hx10 : Ext (w9.alloc (.cells (svs O) 29)) ((w9.alloc (.cells (svs O) 29)).alloc (.cells #[.int .u8 (k : Int)] 5)) := by go_grown
      have HE10 := Lib.hid (bel_call HE9.out hx10)
      have HC10 := Lib.hid (HC9.out.ext hx10)
      have HD10 := Lib.hid (HD9.out.ext hx10)
      have HC9x := HC9.out.ext hx10
      clear hx10 HE9 HC9x HD9 hcv HC9
      generalize hs12 : w9.heap.size = s12 at *
      generalize (w9.alloc (.cells (svs O) 29)).alloc (.cells #[.int .u8 (k : Int)] 5) = w10 at *
      clear hs12 HTE HO hwk hts
      have hpc := parse_esc k es ed w10 (HK.out.ext HE10.out)
      have hok : okE k = (knownB k || (decide (33 ≤ k) && decide (k ≤ 126) && !letterB k)) := by
        have h := List.all_eq_true.1 okE_all k (List.mem_range.2 hlt)
        simpa using h
      have HPC := Lib.hid hpc
      have HOK := Lib.hid hok
      clear hpc hok
      refine HPC.out.mono ?_
      rintro e w11 ⟨S2, n2, v2, rfl, hx11, hv2⟩
      have HV2 := Lib.hid hv2
      have HE11 := Lib.hid (bel_call HE10.out hx11)
      have HC11 := Lib.hid (HC10.out.ext hx11)
      have HD11 := Lib.hid (HD10.out.ext hx11)
      clear hx11 HPC HE10 HC10 HD10 hv2
      go_upto_region 14 with fail
      go_cut [14] from 16 to 181 (fun s14 wx => s14 = .bool (letterB k) ∧ w11 = wx)
      case first =>
        have hcl : (97 ≤ k ∧ k ≤ 122) ∨ (123 ≤ k ∧ k ≤ 255) ∨ (91 ≤ k ∧ k ≤ 96) ∨ (65 ≤ k ∧ k ≤ 90) ∨ (58 ≤ k ∧ k ≤ 64) ∨ (48 ≤ k ∧ k ≤ 57) ∨ (0 ≤ k ∧ k ≤ 47) := by omega
        rcases hcl with hc | hc | hc | hc | hc | hc | hc
        · as_aux_lemma =>
            have HLB := Lib.hid (show letterB k = true by unfold letterB; simp; omega)
            have g97 : decide ((97 : Int) ≤ (k : Int)) = true := by simp; omega
            have g65 : decide ((65 : Int) ≤ (k : Int)) = true := by simp; omega
            have g48 : decide ((48 : Int) ≤ (k : Int)) = true := by simp; omega
            have l122 : decide ((k : Int) ≤ 122) = true := by simp; omega
            have l90 : decide ((k : Int) ≤ 90) = false := by simp; omega
            have l57 : decide ((k : Int) ≤ 57) = false := by simp; omega
            clear hc
            go_wp2_with fail
            go_meet
            exact ⟨by rw [HLB.out], rfl⟩
        · as_aux_lemma =>
            have HLB := Lib.hid (show letterB k = false by unfold letterB; simp; omega)
            have g97 : decide ((97 : Int) ≤ (k : Int)) = true := by simp; omega
            have g65 : decide ((65 : Int) ≤ (k : Int)) = true := by simp; omega
            have g48 : decide ((48 : Int) ≤ (k : Int)) = true := by simp; omega
            have l122 : decide ((k : Int) ≤ 122) = false := by simp; omega
            have l90 : decide ((k : Int) ≤ 90) = false := by simp; omega
            have l57 : decide ((k : Int) ≤ 57) = false := by simp; omega
            clear hc
            go_wp2_with fail
            go_meet
            exact ⟨by rw [HLB.out], rfl⟩
        · as_aux_lemma =>
            have HLB := Lib.hid (show letterB k = false by unfold letterB; simp; omega)
            have g97 : decide ((97 : Int) ≤ (k : Int)) = false := by simp; omega
            have g65 : decide ((65 : Int) ≤ (k : Int)) = true := by simp; omega
            have g48 : decide ((48 : Int) ≤ (k : Int)) = true := by simp; omega
            have l122 : decide ((k : Int) ≤ 122) = true := by simp; omega
            have l90 : decide ((k : Int) ≤ 90) = false := by simp; omega
            have l57 : decide ((k : Int) ≤ 57) = false := by simp; omega
            clear hc
            go_wp2_with fail
            go_meet
            exact ⟨by rw [HLB.out], rfl⟩
        · as_aux_lemma =>
            have HLB := Lib.hid (show letterB k = true by unfold letterB; simp; omega)
            have g97 : decide ((97 : Int) ≤ (k : Int)) = false := by simp; omega
            have g65 : decide ((65 : Int) ≤ (k : Int)) = true := by simp; omega
            have g48 : decide ((48 : Int) ≤ (k : Int)) = true := by simp; omega
            have l122 : decide ((k : Int) ≤ 122) = true := by simp; omega
            have l90 : decide ((k : Int) ≤ 90) = true := by simp; omega
            have l57 : decide ((k : Int) ≤ 57) = false := by simp; omega
            clear hc
            go_wp2_with fail
            go_meet
            exact ⟨by rw [HLB.out], rfl⟩
        · as_aux_lemma =>
            have HLB := Lib.hid (show letterB k = false by unfold letterB; simp; omega)
            have g97 : decide ((97 : Int) ≤ (k : Int)) = false := by simp; omega
            have g65 : decide ((65 : Int) ≤ (k : Int)) = false := by simp; omega
            have g48 : decide ((48 : Int) ≤ (k : Int)) = true := by simp; omega
            have l122 : decide ((k : Int) ≤ 122) = true := by simp; omega
            have l90 : decide ((k : Int) ≤ 90) = true := by simp; omega
            have l57 : decide ((k : Int) ≤ 57) = false := by simp; omega
            clear hc
            go_wp2_with fail
            go_meet
            exact ⟨by rw [HLB.out], rfl⟩
        · as_aux_lemma =>
            have HLB := Lib.hid (show letterB k = true by unfold letterB; simp; omega)
            have g97 : decide ((97 : Int) ≤ (k : Int)) = false := by simp; omega
            have g65 : decide ((65 : Int) ≤ (k : Int)) = false := by simp; omega
            have g48 : decide ((48 : Int) ≤ (k : Int)) = true := by simp; omega
            have l122 : decide ((k : Int) ≤ 122) = true := by simp; omega
            have l90 : decide ((k : Int) ≤ 90) = true := by simp; omega
            have l57 : decide ((k : Int) ≤ 57) = true := by simp; omega
            clear hc
            go_wp2_with fail
            go_meet
            exact ⟨by rw [HLB.out], rfl⟩
        · as_aux_lemma =>
            have HLB := Lib.hid (show letterB k = false by unfold letterB; simp; omega)
            have g97 : decide ((97 : Int) ≤ (k : Int)) = false := by simp; omega
            have g65 : decide ((65 : Int) ≤ (k : Int)) = false := by simp; omega
            have g48 : decide ((48 : Int) ≤ (k : Int)) = false := by simp; omega
            have l122 : decide ((k : Int) ≤ 122) = true := by simp; omega
            have l90 : decide ((k : Int) ≤ 90) = true := by simp; omega
            have l57 : decide ((k : Int) ≤ 57) = true := by simp; omega
            clear hc
            go_wp2_with fail
            go_meet
            exact ⟨by rw [HLB.out], rfl⟩
      case rest =>
        obtain ⟨rfl, hwc⟩ := hcut
        subst hwc
        generalize hlb : letterB k = lb at *
        have HLB := Lib.hid hlb
        clear hlb
        go_upto_region 15 with fail
        go_cut [15] from 16 to 181 (fun s15 wx => s15 = .bool (knownB k) ∧ w11 = wx)
        case first =>
          have hcl : k = 110 ∨ k = 116 ∨ k = 114 ∨ k = 118 ∨ k = 102 ∨ k = 97 ∨ k = 98 ∨ k = 101 ∨ k = 48 ∨ (k ≠ 110 ∧ k ≠ 116 ∧ k ≠ 114 ∧ k ≠ 118 ∧ k ≠ 102 ∧ k ≠ 97 ∧ k ≠ 98 ∧ k ≠ 101 ∧ k ≠ 48) := by omega
          rcases hcl with hc | hc | hc | hc | hc | hc | hc | hc | hc | hc
          · as_aux_lemma =>
              have HKB := Lib.hid (show knownB k = true by unfold knownB; simp; omega)
              have q110 : ((k : Int) == 110) = true := by simp; omega
              clear hc
              go_wp2_with fail
              go_meet
              exact ⟨by rw [HKB.out], rfl⟩
          · as_aux_lemma =>
              have HKB := Lib.hid (show knownB k = true by unfold knownB; simp; omega)
              have q110 : ((k : Int) == 110) = false := by simp; omega
              have q116 : ((k : Int) == 116) = true := by simp; omega
              clear hc
              go_wp2_with fail
              go_meet
              exact ⟨by rw [HKB.out], rfl⟩
          · as_aux_lemma =>
              have HKB := Lib.hid (show knownB k = true by unfold knownB; simp; omega)
              have q110 : ((k : Int) == 110) = false := by simp; omega
              have q116 : ((k : Int) == 116) = false := by simp; omega
              have q114 : ((k : Int) == 114) = true := by simp; omega
              clear hc
              go_wp2_with fail
              go_meet
              exact ⟨by rw [HKB.out], rfl⟩
          · as_aux_lemma =>
              have HKB := Lib.hid (show knownB k = true by unfold knownB; simp; omega)
              have q110 : ((k : Int) == 110) = false := by simp; omega
              have q116 : ((k : Int) == 116) = false := by simp; omega
              have q114 : ((k : Int) == 114) = false := by simp; omega
              have q118 : ((k : Int) == 118) = true := by simp; omega
              clear hc
              go_wp2_with fail
              go_meet
              exact ⟨by rw [HKB.out], rfl⟩
          · as_aux_lemma =>
              have HKB := Lib.hid (show knownB k = true by unfold knownB; simp; omega)
              have q110 : ((k : Int) == 110) = false := by simp; omega
              have q116 : ((k : Int) == 116) = false := by simp; omega
              have q114 : ((k : Int) == 114) = false := by simp; omega
              have q118 : ((k : Int) == 118) = false := by simp; omega
              have q102 : ((k : Int) == 102) = true := by simp; omega
              clear hc
              go_wp2_with fail
              go_meet
              exact ⟨by rw [HKB.out], rfl⟩
          · as_aux_lemma =>
              have HKB := Lib.hid (show knownB k = true by unfold knownB; simp; omega)
              have q110 : ((k : Int) == 110) = false := by simp; omega
              have q116 : ((k : Int) == 116) = false := by simp; omega
              have q114 : ((k : Int) == 114) = false := by simp; omega
              have q118 : ((k : Int) == 118) = false := by simp; omega
              have q102 : ((k : Int) == 102) = false := by simp; omega
              have q97 : ((k : Int) == 97) = true := by simp; omega
              clear hc
              go_wp2_with fail
              go_meet
              exact ⟨by rw [HKB.out], rfl⟩
          · as_aux_lemma =>
              have HKB := Lib.hid (show knownB k = true by unfold knownB; simp; omega)
              have q110 : ((k : Int) == 110) = false := by simp; omega
              have q116 : ((k : Int) == 116) = false := by simp; omega
              have q114 : ((k : Int) == 114) = false := by simp; omega
              have q118 : ((k : Int) == 118) = false := by simp; omega
              have q102 : ((k : Int) == 102) = false := by simp; omega
              have q97 : ((k : Int) == 97) = false := by simp; omega
              have q98 : ((k : Int) == 98) = true := by simp; omega
              clear hc
              go_wp2_with fail
              go_meet
              exact ⟨by rw [HKB.out], rfl⟩
          · as_aux_lemma =>
              have HKB := Lib.hid (show knownB k = true by unfold knownB; simp; omega)
              have q110 : ((k : Int) == 110) = false := by simp; omega
              have q116 : ((k : Int) == 116) = false := by simp; omega
              have q114 : ((k : Int) == 114) = false := by simp; omega
              have q118 : ((k : Int) == 118) = false := by simp; omega
              have q102 : ((k : Int) == 102) = false := by simp; omega
              have q97 : ((k : Int) == 97) = false := by simp; omega
              have q98 : ((k : Int) == 98) = false := by simp; omega
              have q101 : ((k : Int) == 101) = true := by simp; omega
              clear hc
              go_wp2_with fail
              go_meet
              exact ⟨by rw [HKB.out], rfl⟩
          · as_aux_lemma =>
              have HKB := Lib.hid (show knownB k = true by unfold knownB; simp; omega)
              have q110 : ((k : Int) == 110) = false := by simp; omega
              have q116 : ((k : Int) == 116) = false := by simp; omega
              have q114 : ((k : Int) == 114) = false := by simp; omega
              have q118 : ((k : Int) == 118) = false := by simp; omega
              have q102 : ((k : Int) == 102) = false := by simp; omega
              have q97 : ((k : Int) == 97) = false := by simp; omega
              have q98 : ((k : Int) == 98) = false := by simp; omega
              have q101 : ((k : Int) == 101) = false := by simp; omega
              have q48 : ((k : Int) == 48) = true := by simp; omega
              clear hc
              go_wp2_with fail
              go_meet
              exact ⟨by rw [HKB.out], rfl⟩
          · as_aux_lemma =>
              have HKB := Lib.hid (show knownB k = false by unfold knownB; simp; omega)
              have q110 : ((k : Int) == 110) = false := by simp; omega
              have q116 : ((k : Int) == 116) = false := by simp; omega
              have q114 : ((k : Int) == 114) = false := by simp; omega
              have q118 : ((k : Int) == 118) = false := by simp; omega
              have q102 : ((k : Int) == 102) = false := by simp; omega
              have q97 : ((k : Int) == 97) = false := by simp; omega
              have q98 : ((k : Int) == 98) = false := by simp; omega
              have q101 : ((k : Int) == 101) = false := by simp; omega
              have q48 : ((k : Int) == 48) = false := by simp; omega
              clear hc
              go_wp2_with fail
              go_meet
              exact ⟨by rw [HKB.out], rfl⟩
        case rest =>
          obtain ⟨rfl, hwc⟩ := hcut
          subst hwc
          generalize hkb : knownB k = kb at *
          obtain ⟨c0, c1, c2, c3⟩ := HC11.out.cells4
          obtain ⟨d0, d1, d2, d3⟩ := HD11.out.cells4
          have hB := HOK.out
          have hv := HV2.out
          clear HC11 HD11 HOK HV2 hkb
          rcases hv with ⟨rfl, ho⟩ | ⟨⟨p, rfl⟩, ho⟩
          · rw [ho] at hB
            cases kb with
            | true =>
              clear hB ho
              as_aux_lemma =>
                go_wp2_with fail
                go_roundw
                case rel => first | exact ⟨k + 1, by omega, by go_num, HE11⟩ | ((repeat apply Exists.intro); exact ⟨⟨k + 1, by omega, by go_num, HE11⟩, rfl⟩)
                case measure => simp [intOf]; omega
            | false =>
              simp only [Bool.false_or, Bool.true_eq, Bool.and_eq_true, decide_eq_true_eq, Bool.not_eq_true'] at hB
              obtain ⟨⟨h33, h126⟩, rfl⟩ := hB
              have g33 : decide ((33 : Int) ≤ (k : Int)) = true := by simp; omega
              have l126 : decide ((k : Int) ≤ 126) = true := by simp; omega
              clear h33 h126 ho
              as_aux_lemma =>
                go_wp2_with fail
                go_roundw
                case rel => first | exact ⟨k + 1, by omega, by go_num, HE11⟩ | ((repeat apply Exists.intro); exact ⟨⟨k + 1, by omega, by go_num, HE11⟩, rfl⟩)
                case measure => simp [intOf]; omega
          · rw [ho] at hB
            cases kb with
            | true => simp at hB
            | false =>
              by_cases h33 : 33 ≤ k
              · have g33 : decide ((33 : Int) ≤ (k : Int)) = true := by simp; omega
                by_cases h126 : k ≤ 126
                · have l126 : decide ((k : Int) ≤ 126) = true := by simp; omega
                  have hl : lb = true := by
                    cases lb with
                    | true => rfl
                    | false => simp [h33, h126] at hB
                  subst hl
                  clear hB ho h33 h126
                  as_aux_lemma =>
                    go_wp2_with fail
                    go_roundw
                    case rel => first | exact ⟨k + 1, by omega, by go_num, HE11⟩ | ((repeat apply Exists.intro); exact ⟨⟨k + 1, by omega, by go_num, HE11⟩, rfl⟩)
                    case measure => simp [intOf]; omega
                · have l126 : decide ((k : Int) ≤ 126) = false := by simp; omega
                  clear hB ho h33 h126
                  as_aux_lemma =>
                    go_wp2_with fail
                    go_roundw
                    case rel => first | exact ⟨k + 1, by omega, by go_num, HE11⟩ | ((repeat apply Exists.intro); exact ⟨⟨k + 1, by omega, by go_num, HE11⟩, rfl⟩)
                    case measure => simp [intOf]; omega
              · have g33 : decide ((33 : Int) ≤ (k : Int)) = false := by simp; omega
                clear hB ho h33
                as_aux_lemma =>
                  go_wp2_with fail
                  go_roundw
                  case rel => first | exact ⟨k + 1, by omega, by go_num, HE11⟩ | ((repeat apply Exists.intro); exact ⟨⟨k + 1, by omega, by go_num, HE11⟩, rfl⟩)
                  case measure => simp [intOf]; omega
    · obtain rfl : k = 256 := by omega
      have hw := wakes_any es ed wr (HT.out.ext hE.out) (HK.out.ext hE.out)
      go_wp2_with fail
      refine hw.mono ?_
      rintro e w1 ⟨rfl, hx⟩
      have HX := Lib.hid (bel_call hE.out hx)
      clear hx hw
      go_wp2_with fail
      go_ret
      exact ⟨rfl, HX.out⟩
end Go.Proofs.YtgfbbblbglpccaaDoor
