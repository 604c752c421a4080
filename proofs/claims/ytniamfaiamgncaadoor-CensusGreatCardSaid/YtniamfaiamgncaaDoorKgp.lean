/- Counts at and above 2^64 (plain). -/
import Derived.Test.YtniamfaiamgncaaDoorKpp
namespace Go.Proofs.YtniamfaiamgncaaDoor
def aD : Dd := ⟨[List.replicate 256 0], [0]⟩
theorem aD_ok : aD.Ok := okB_ok.1 (by decide +kernel)
theorem aD_to : ∀ c, c < 256 → aD.to 0 c = 0 := by decide +kernel
theorem aD_cnt : ∀ n, cnt aD.to aD.lab 0 n 0 = 256 ^ n
  | 0 => by decide +kernel
  | n + 1 => by
    rw [cnt, sumB_congr (g := fun _ => 256 ^ n) (fun c hc => by rw [aD_to c hc]; exact aD_cnt n), sumB_const, Nat.pow_succ, Nat.mul_comm]
theorem aD_rankS {c : Nat} {l : List Nat} (hc : c < 256) : rankS aD.to aD.lab 0 0 (c :: l) = c * 256 ^ l.length + rankS aD.to aD.lab 0 0 l := by
  rw [rankS, aD_to c hc, sumB_congr (g := fun _ => 256 ^ l.length) (fun b hb => by rw [aD_to b (by omega)]; exact aD_cnt _), sumB_const]
theorem aD_below : below aD.to aD.lab 0 8 = 72340172838076673 := by
  unfold below
  rw [sumB_congr (g := fun l => 256 ^ l) (fun l _ => aD_cnt l)]
  decide +kernel
theorem aD_rep {c : Nat} (hc : c < 256) : ∀ n, rankS aD.to aD.lab 0 0 (List.replicate n c) * 255 + c = c * 256 ^ n
  | 0 => by simp [rankS]
  | n + 1 => by
    rw [List.replicate_succ, aD_rankS hc, List.length_replicate, Nat.pow_succ, Nat.add_mul, Nat.add_assoc, aD_rep hc n, Nat.mul_assoc, ← Nat.mul_add, ← Nat.mul_succ]
theorem aD_split (c : Nat) : rankW aD.to aD.lab 0 (List.replicate 8 c) = below aD.to aD.lab 0 8 + rankS aD.to aD.lab 0 0 (List.replicate 8 c) := by
  unfold rankW
  rw [List.length_replicate]
theorem pow8 : (256 : Nat) ^ 8 = 18446744073709551616 := by decide +kernel
theorem aD_254 : rankW aD.to aD.lab 0 (List.replicate 8 254) = 18446744073709551615 := by
  have h := aD_rep (c := 254) (by decide) 8
  have h2 := aD_split 254
  have h3 := aD_below
  have h4 := pow8
  generalize rankS aD.to aD.lab 0 0 (List.replicate 8 254) = R at *
  generalize rankW aD.to aD.lab 0 (List.replicate 8 254) = W at *
  generalize below aD.to aD.lab 0 8 = b at *
  generalize (256 : Nat) ^ 8 = e at *
  omega
theorem aD_255 : 18446744073709551616 ≤ rankW aD.to aD.lab 0 (List.replicate 8 255) := by
  have h := aD_rep (c := 255) (by decide) 8
  have h2 := aD_split 255
  have h3 := aD_below
  have h4 := pow8
  generalize rankS aD.to aD.lab 0 0 (List.replicate 8 255) = R at *
  generalize rankW aD.to aD.lab 0 (List.replicate 8 255) = W at *
  generalize below aD.to aD.lab 0 8 = b at *
  generalize (256 : Nat) ^ 8 = e at *
  omega
theorem aD_lab (l : List Nat) (h : ∀ c ∈ l, c < 256) : aD.lab (runA aD.to 0 l) = 0 := by
  have : runA aD.to 0 l = 0 := by
    induction l with
    | nil => rfl
    | cons c l ih => rw [runA, aD_to c (h c (List.mem_cons_self ..))]; exact ih fun x hx => h x (List.mem_cons_of_mem _ hx)
  rw [this]; decide +kernel
theorem aD_nth : nthW aD.to aD.lab 0 18446744073709551615 = some (List.replicate 8 254) := by
  have := nthW_of (dl := aD.to) (lab := aD.lab) (x := 0) (l := (List.replicate 8 254)) (by decide) (by decide) (aD_lab _ (by decide))
  rwa [aD_254] at this
/-- Counts of all three states. -/
def tri (a b c : Nat) : Nat → Nat × Nat × Nat
  | 0 => (a, b, c)
  | n + 1 => let t := tri a b c n; (2 * t.2.2 + 254 * t.2.1, 256 * t.2.1, 2 * t.2.2 + 254 * t.2.1)
theorem pD_tri {x : Int} {a b c : Nat} (ha : cnt pD.to pD.lab x 0 0 = a) (hb : cnt pD.to pD.lab x 0 1 = b) (hc : cnt pD.to pD.lab x 0 2 = c) :
    ∀ n, tri a b c n = (cnt pD.to pD.lab x n 0, cnt pD.to pD.lab x n 1, cnt pD.to pD.lab x n 2)
  | 0 => by rw [tri, ha, hb, hc]
  | n + 1 => by
    obtain ⟨h1, h2, h3⟩ := pD_step (x := x) n
    rw [tri, pD_tri ha hb hc n, h1, h2, h3]
theorem pD_none8 : cnt pD.to pD.lab (-1) 8 0 = 18446744073709551360 := by
  have h := pD_tri (x := -1) (a := 1) (b := 1) (c := 0) (by decide +kernel) (by decide +kernel) (by decide +kernel) 8
  have : tri 1 1 0 8 = (18446744073709551360, 18446744073709551616, 18446744073709551360) := by decide +kernel
  rw [this] at h
  exact (Prod.mk.inj h).1.symm
theorem tri_zero : ∀ n, tri 0 0 0 n = (0, 0, 0)
  | 0 => rfl
  | n + 1 => by
    rw [tri, tri_zero n]
    rfl
theorem findN_zero {dl : Nat → Nat → Nat} {lab : Nat → Int} {x : Int} (h : ∀ n, cnt dl lab x n 0 = 0) : ∀ m n k, findN dl lab x m n k = none
  | 0, _, _ => rfl
  | m + 1, n, k => by rw [findN, h n, if_neg (by omega), findN_zero h m]
theorem pD_one : nthW pD.to pD.lab 1 0 = none := by
  have h : ∀ n, cnt pD.to pD.lab 1 n 0 = 0 := fun n => by
    have h := pD_tri (x := 1) (a := 0) (b := 0) (c := 0) (by decide +kernel) (by decide +kernel) (by decide +kernel) n
    rw [tri_zero] at h
    exact (Prod.mk.inj h).1.symm
  unfold nthW
  rw [findN_zero h]; rfl
theorem pow_65 : (2 : Nat) ^ 65 = 36893488147419103232 := by decide +kernel
theorem pow_64 : (2 : Nat) ^ 64 = 18446744073709551616 := by decide +kernel
theorem pow_63 : (2 : Nat) ^ 63 = 9223372036854775808 := by decide +kernel
theorem arith_63 {b63 b64 bl bl1 len c r : Nat} (h63 : b63 + 2 = 9223372036854775808) (h64 : b64 + 2 = 18446744073709551616) (e : bl1 = bl + c) (hr : r < c) (h : bl + r = 9223372036854775808) (m1 : len + 1 ≤ 63 → bl1 ≤ b63) (m2 : 64 ≤ len → b64 ≤ bl) : len = 63 := by omega
theorem pD_bel {n m p : Nat} (hm : m = n + 1) (hp : 2 ^ m = p) : below pD.to pD.lab 0 m + 2 = p := by
  subst hm
  rw [← hp]; exact pD_below n
theorem pD_b65 : below pD.to pD.lab 0 65 + 2 = 36893488147419103232 := pD_bel (n := 64) rfl pow_65
theorem pD_b64 : below pD.to pD.lab 0 64 + 2 = 18446744073709551616 := pD_bel (n := 63) rfl pow_64
theorem pD_b63 : below pD.to pD.lab 0 63 + 2 = 9223372036854775808 := pD_bel (n := 62) rfl pow_63
theorem arith_65 {b : Nat} (h : b + 2 = 36893488147419103232) : 9223372036854775808 < b := by omega
theorem len_63 {w : List Nat} (s2 : ∀ c ∈ w, c < 256) (s3 : pD.lab (runA pD.to 0 w) = 0) {k : Nat} (hk : k = 9223372036854775808) (s4 : rankW pD.to pD.lab 0 w = k) : w.length = 63 := by
  have a1 := rankS_lt (dl := pD.to) w 0 s2 s3
  have a3 : below pD.to pD.lab 0 (w.length + 1) = below pD.to pD.lab 0 w.length + cnt pD.to pD.lab 0 w.length 0 := rfl
  have m1 : w.length + 1 ≤ 63 → below pD.to pD.lab 0 (w.length + 1) ≤ below pD.to pD.lab 0 63 := fun h => below_mono h
  have m2 : 64 ≤ w.length → below pD.to pD.lab 0 64 ≤ below pD.to pD.lab 0 w.length := fun h => below_mono h
  have b64 := pD_b64
  have b63 := pD_b63
  unfold rankW at s4
  generalize below pD.to pD.lab 0 (w.length + 1) = x1 at *
  generalize below pD.to pD.lab 0 w.length = x2 at *
  generalize below pD.to pD.lab 0 64 = x3 at *
  generalize below pD.to pD.lab 0 63 = x4 at *
  generalize cnt pD.to pD.lab 0 w.length 0 = x5 at *
  generalize rankS pD.to pD.lab 0 0 w = x6 at *
  subst hk
  exact arith_63 b63 b64 a3 a1 s4 m1 m2
theorem pD_63k {k : Nat} (hk : k = 9223372036854775808) : ∃ w, nthW pD.to pD.lab 0 k = some w ∧ w.length = 63 := by
  have h65 : k < below pD.to pD.lab 0 65 := by rw [hk]; exact arith_65 pD_b65
  obtain ⟨w, hw⟩ := nthW_some h65
  obtain ⟨s1, s2, s3, s4⟩ := nth_spec hw
  exact ⟨w, hw, len_63 s2 s3 hk s4⟩
end Go.Proofs.YtniamfaiamgncaaDoor
