/-
  The walks of the document's answer on low bits (package gistref): two, mod, Low, LowOf, Fits, FitsOf.
  Conditions stand in each theorem.
-/
import Derived.Test.YtgpojbgjfibblaaFit
namespace Go.Proofs.Ytgpojbgjfibblaa.bits
open Go.RowKit
set_option linter.unusedVariables false

/-- 2 to the power j -/
def pw (j : Nat) : Int := 2 ^ j
theorem pw_succ (j : Nat) : pw (j + 1) = 2 * pw j := by unfold pw; rw [Int.pow_succ, Int.mul_comm]
theorem pw_bd (j : Nat) (h : j ≤ 32) : 1 ≤ pw j ∧ pw j ≤ 4294967296 := by
  have h1 := plain.two_pos j
  have h2 := plain.two_le h
  have h3 : (2 : Int) ^ 32 = 4294967296 := by decide
  unfold pw; omega

set_option maxHeartbeats 400000 in
theorem two_any (k : Int) (w : World) (h0 : 0 ≤ k) (h1 : k ≤ 32) :
    Calls Try.prog 49 #[.int .i64 k] w fun e w' => e = .returned (.int .i64 (pw k.toNat)) ∧ w' = w := by
  obtain ⟨n, rfl⟩ := Int.eq_ofNat_of_zero_le h0
  rw [Int.toNat_natCast]
  go_enter Try.func49, Try.ntmps49
  go_wp2
  go_loop [3, 4] (fun m i => ∃ j : Nat, j ≤ n ∧ i = .int .i64 j ∧ m = .int .i64 (pw j)) (fun _ i => n - (intOf i).toNat)
  case atStart => exact ⟨0, Nat.zero_le _, rfl, rfl⟩
  case round =>
    obtain ⟨j, hj, rfl, rfl⟩ := hrel
    have hb := pw_bd j (by omega)
    by_cases hlt : j < n
    · have hs : Hid (pw (j + 1) = 2 * pw j) := pw_succ j
      go_wp2
      go_round
      case rel => exact ⟨j + 1, by omega, by go_num, by rw [hs.out]⟩
      case measure => simp [intOf]; omega
    · have e : j = n := by omega
      subst e
      go_wp2
      go_ret
      exact ⟨rfl, rfl⟩

theorem tmod_gt (n c : Int) (hc : 0 < c) : -c < n.tmod c := by
  have := Int.tmod_lt_of_pos (-n) hc
  rw [Int.neg_tmod] at this
  omega
theorem tmod_neg (n c : Int) (hc : 0 < c) (h : n.tmod c < 0) : n.tmod c + c = n % c := by
  have h1 : ¬ 0 ≤ n := by
    intro h0
    have := Int.tmod_nonneg c h0
    omega
  have h2 := Int.tmod_add_mul_tdiv n c
  have h3 : (n.tmod c + c) % c = n % c := by
    conv => rhs; rw [← h2]
    simp
  have h4 : -c < n.tmod c := by
    have := Int.tmod_lt_of_pos (-n) hc
    rw [Int.neg_tmod] at this
    omega
  rw [← h3]
  exact (Int.emod_eq_of_lt (by omega) (by omega)).symm
theorem tmod_pos (n c : Int) (hc : 0 < c) (h : 0 ≤ n.tmod c) : n.tmod c = n % c := by
  have h2 := Int.tmod_add_mul_tdiv n c
  have h3 : (n.tmod c) % c = n % c := by
    conv => rhs; rw [← h2]
    simp
  have h4 : n.tmod c < c := Int.tmod_lt_of_pos n hc
  rw [← h3]
  exact (Int.emod_eq_of_lt (by omega) (by omega)).symm

set_option maxHeartbeats 400000 in
theorem mod_any (n k : Int) (w : World) (h0 : 0 ≤ k) (h1 : k ≤ 32) (hn : -9223372036854775808 ≤ n) (hn' : n ≤ 9223372036854775807) :
    Calls Try.prog 86 #[.int .i64 n, .int .i64 k] w fun e w' => e = .returned (.int .i64 (n % pw k.toNat)) ∧ w' = w := by
  have hb := pw_bd k.toNat (by omega)
  by_cases h : n.tmod (pw k.toNat) < 0
  · have e : Hid (n.tmod (pw k.toNat) + pw k.toNat = n % pw k.toNat) := tmod_neg _ _ (by omega) h
    have hg := tmod_gt n (pw k.toNat) (by omega)
    go_enter Try.func86, Try.ntmps86
    go_wp2_with (go_at_call 49; refine (two_any _ _ h0 h1).mono ?_; rintro e w' ⟨rfl, rfl⟩)
    go_ret
    exact ⟨ret_int e.out, rfl⟩
  · have e : Hid (n.tmod (pw k.toNat) = n % pw k.toNat) := tmod_pos _ _ (by omega) (by omega)
    go_enter Try.func86, Try.ntmps86
    go_wp2_with (go_at_call 49; refine (two_any _ _ h0 h1).mono ?_; rintro e w' ⟨rfl, rfl⟩)
    go_ret
    exact ⟨ret_int e.out, rfl⟩

/-- the document's low number, from what two and mod give -/
theorem low_ref (wd k r p b : Int) (hk0 : 0 ≤ k) (hk : k ≤ wd) (hb0 : 0 ≤ b) (hb1 : b < pw k.toNat) (v : Int)
    (hv : v = (r - p) % pw wd.toNat - (r - p) % pw wd.toNat % pw k.toNat + b) :
    (v < (r - p) % pw wd.toNat → (v + pw k.toNat) % pw wd.toNat = plain.lowV wd.toNat k.toNat r p b) ∧
    (¬ v < (r - p) % pw wd.toNat → v % pw wd.toNat = plain.lowV wd.toNat k.toNat r p b) := by
  have h := plain.low_ref wd.toNat k.toNat r p b (by omega) hb0 hb1
  simp only at h
  subst hv
  unfold pw at *
  constructor
  · intro hlt; rw [if_pos hlt] at h; exact h
  · intro hlt; rw [if_neg hlt] at h; exact h

set_option maxHeartbeats 1000000 in
theorem rlow_any (wd r k p b : Int) (w : World) (h0 : 0 ≤ k) (h1 : k ≤ wd) (h2 : wd ≤ 32) (hr : 0 ≤ r) (hr' : r ≤ 4294967295) (hp : 0 ≤ p) (hp' : p ≤ 4294967295) (hb : 0 ≤ b) (hb' : b < pw k.toNat) :
    Calls Try.prog 50 #[.int .i64 wd, .int .i64 r, .int .i64 k, .int .i64 p, .int .i64 b] w fun e w' => e = .returned (.int .i64 (plain.lowV wd.toNat k.toNat r p b)) ∧ w' = w := by
  have hbk := pw_bd k.toNat (by omega)
  have hbw := pw_bd wd.toNat (by omega)
  have hm0 := Int.emod_nonneg (r - p) (show pw wd.toNat ≠ 0 by omega)
  have hm1 := Int.emod_lt_of_pos (r - p) (show 0 < pw wd.toNat by omega)
  have hq0 := Int.emod_nonneg ((r - p) % pw wd.toNat) (show pw k.toNat ≠ 0 by omega)
  have hq1 := Int.emod_lt_of_pos ((r - p) % pw wd.toNat) (show 0 < pw k.toNat by omega)
  have H := hide (low_ref wd k r p b h0 h1 hb hb' _ rfl)
  by_cases h : (r - p) % pw wd.toNat - (r - p) % pw wd.toNat % pw k.toNat + b < (r - p) % pw wd.toNat
  · have e := hide ((unhide H).1 h)
    go_enter Try.func50, Try.ntmps50
    go_wp2_with (first | (go_at_call 49; refine (two_any _ _ h0 (by omega)).mono ?_; rintro e w' ⟨rfl, rfl⟩) | (go_at_call 86; refine (mod_any _ _ _ (by omega) h2 (by omega) (by omega)).mono ?_; rintro e w' ⟨rfl, rfl⟩))
    go_ret
    exact ⟨ret_int (unhide e), rfl⟩
  · have e := hide ((unhide H).2 h)
    go_enter Try.func50, Try.ntmps50
    go_wp2_with (first | (go_at_call 49; refine (two_any _ _ h0 (by omega)).mono ?_; rintro e w' ⟨rfl, rfl⟩) | (go_at_call 86; refine (mod_any _ _ _ (by omega) h2 (by omega) (by omega)).mono ?_; rintro e w' ⟨rfl, rfl⟩))
    go_ret
    exact ⟨ret_int (unhide e), rfl⟩

end Go.Proofs.Ytgpojbgjfibblaa.bits
