/- Package census: what leads on from a state, by each byte below one, is added up. -/
import Derived.Test.YtniamfaiamgncaaDoorKt5
namespace Go.Proofs.YtniamfaiamgncaaDoor
open Go Go.RowKit
theorem Blk.ne_sb {w : World} {b b' t t' : Nat} {vs vs' : Array Value} (h : Blk w b vs t) (h' : Blk w b' vs' t') (hne : t ≠ t') : b ≠ b' := fun e => by
  subst e
  unfold Blk at h h'
  rw [h] at h'
  cases h'
  exact hne rfl
theorem dd_nx {d : Dd} (hd : d.Ok) {s c : Nat} (hs : s < d.nx.length) (hc : c < 256) {h : c < d.nx[s].length} : d.nx[s][c] = ((d.to s c : Nat) : Int) := by
  have h1 := (hd.ent s c hs hc).1
  have : d.ent s c = d.nx[s][c] := by unfold Dd.ent; rw [getD_get hs, getD_get h]
  unfold Dd.to
  omega
set_option maxHeartbeats 2000000 in
set_option maxRecDepth 20000 in
theorem below_any {w0 w : World} {tb gf n k s b m sb x0 : Nat} {vN : Value} {d : Dd} {T : Nat → Nat → Option Nat} {f : Nat → Nat} (h : Tbl w0 w tb gf n k vN d T) (hd : d.Ok) (hn : d.nx.length = n) (hs : s < n) (hb : b ≤ 256) (hm : m < 65)
    (hT : ∀ t, t < n → T t m = some (f t)) (hB : Blk w sb (cc x0) 117) (hsb : w0.heap.size ≤ sb) :
    Calls Tryd.prog 118 #[.pointer (some ⟨tb, 0, none⟩), .int .i64 (s : Int), .int .i64 (b : Int), .int .i64 ((m : Int) + 1), .func (.func 119) #[.pointer (some ⟨sb, 0, none⟩)] #[]] w fun e w' =>
      e = .returned (.tuple #[]) ∧ Blk w' sb (cc (x0 + sumB (fun c => f (d.to s c)) b)) 117 ∧ Fr (fun g => g = sb) w w' := by
  have h6 := hd.le
  have hsd : s < d.nx.length := by omega
  obtain ⟨p, cap, rfl, hcp, _, hcm⟩ := h.nx.shape
  rw [hn] at h
  obtain ⟨bR, oR, aR, cR, rfl, hbR, hcR, hIR, -⟩ := h.nx.cell hsd
  have hr1 : d.nx[s].length = 256 := by have := hd.row s hsd; rwa [getD_get hsd] at this
  have htl : ∀ t, t < 256 → d.to s t < n := fun t ht => by have := hd.to hsd ht; rw [hn] at this; exact this
  have hto : ∀ (i : Nat) (h : i < d.nx[s].length), d.nx[s][i] = ((d.to s i : Nat) : Int) := fun i hi => dd_nx hd hsd (by omega)
  rw [hr1] at hcR hIR
  obtain ⟨L, hr2, hto2, hcR2, hIR2⟩ : ∃ L : List Int, L.length = 256 ∧ (∀ (i : Nat) (h : i < L.length), L[i] = ((d.to s i : Nat) : Int)) ∧ w0.cell? ⟨bR, oR + s, none⟩ = some (.slice aR 256 cR) ∧ Ints w0 (.slice aR 256 cR) L := ⟨d.nx[s], hr1, hto, hcR, hIR⟩
  have hbc : b ≤ cR := by
    obtain ⟨_, c', e, hle, _, _⟩ := hIR2.shape
    rw [hr2] at e hle
    cases e; omega
  have HH := Lib.hid h
  have HB := Lib.hid hB
  have HT := Lib.hid hT
  have HTL := Lib.hid htl
  have HTO := Lib.hid hto2
  have HR1 := Lib.hid hr2
  have HIR := Lib.hid hIR2
  have HSB := Lib.hid hsb
  have z0 := h.bk.cell 0
  have z1 := h.bk.cell 1
  have y0 := (h.ex.cell (p := ⟨bR, oR + s, none⟩) hbR).trans hcR2
  clear h hB hT hn hr2 hcR2 hIR2 hto2 hr1 hcR hIR hto hd hcp hcm htl hsd
  go_enter Tryd.func118, Tryd.ntmps118
  go_wp2_with fail
  clear z0 z1 y0
  have hsm : b ≤ 256 := hb
  have hB0 := Lib.hid (show Blk w sb (cc (x0 + sumB (fun c => f (d.to s c)) 0)) 117 from HB.out)
  go_loopw [22] (fun s22 wr => ∃ i : Nat, i ≤ b ∧ s22 = .int .i64 i ∧ Hid (Blk wr sb (cc (x0 + sumB (fun c => f (d.to s c)) i)) 117) ∧ Hid (Fr (fun g => g = sb) w wr)) (fun s22 _ => b - (intOf s22).toNat)
  case atStart => exact ⟨0, Nat.zero_le _, rfl, hB0, Lib.hid (Fr.refl _ _)⟩
  case round =>
    clear hB0
    obtain ⟨i, hi, rfl, hS, hF⟩ := hrel
    by_cases hib : i < b
    · have hi6 : i < 256 := by omega
      have hil : i < L.length := by rw [HR1.out]; exact hi6
      have HTb := Lib.hid (HH.out.fr hF.out (fun g q => by have := HSB.out; omega) (fun e => HH.out.bk.ne_sb HB.out (by decide) e) (fun e => HH.out.fm.ne_blk HB.out (by decide) e))
      obtain ⟨bE, oE, rfl, hbE, hcE, -⟩ := HIR.out.cell hil
      rw [HTO.out i hil] at hcE
      have ht : d.to s i < n := HTL.out i hi6
      obtain ⟨t, htq⟩ : ∃ t, d.to s i = t := ⟨_, rfl⟩
      rw [htq] at hcE ht
      have y1 := (HTb.out.ex.cell (p := ⟨bE, oE + i, none⟩) hbE).trans hcE
      have z1 := HTb.out.bk.cell 1
      have c0 := HTb.out.fm.cell0 ht hm
      have c1 := HTb.out.fm.cell1 ht hm
      rw [HT.out t ht] at c0 c1
      have HTQ := Lib.hid htq
      clear hil hcE htq
      have HA := Lib.hid (add_any sb _ (f t) wr hS.out)
      go_wp2_with fail
      refine HA.out.mono ?_
      rintro e w9 ⟨rfl, hb9, hf9⟩
      have S9 := Lib.hid (show Blk w9 sb (cc (x0 + sumB (fun c => f (d.to s c)) (i + 1))) 117 from by rw [sumB, HTQ.out, ← Nat.add_assoc]; exact hb9)
      have F9 := Lib.hid (hF.out.trans hf9 (fun _ _ q => q))
      clear hb9 hf9 y1 z1 c0 c1 HA hS hF
      go_wp2_with fail
      go_roundw
      case rel => exact ⟨i + 1, by omega, by go_num, S9, F9⟩
      case measure => simp [intOf]; omega
    · obtain rfl : b = i := by omega
      go_wp2_with fail
      first | go_end0 | refine bodyPost_ret (results_none rfl _ _ _) rfl ?_
      exact ⟨rfl, hS.out, hF.out⟩
end Go.Proofs.YtniamfaiamgncaaDoor
