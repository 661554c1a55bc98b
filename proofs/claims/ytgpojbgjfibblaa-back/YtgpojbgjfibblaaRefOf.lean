/-
  The walks of the document's LowOf, Fits and FitsOf (package gistref): they answer as the program's calls do.
  Conditions stand in each theorem.
-/
import Derived.Test.YtgpojbgjfibblaaRefLow
namespace Go.Proofs.Ytgpojbgjfibblaa.bits
open Go.RowKit
set_option linter.unusedVariables false

theorem ret_bool {a b : Bool} (h : a = b) : Ending.returned (.bool a) = .returned (.bool b) := by rw [h]

theorem cnt_pw {k wd : Int} (h0 : 0 ≤ k) (h1 : k ≤ wd) : cnt k wd = pw k.toNat := cnt_good h0 h1
theorem lowR_good {wd k r p b : Int} (hp : p < cnt k wd) (hb : b < cnt k wd) : lowR wd k r p b = plain.lowV wd.toNat k.toNat r p b := by
  unfold lowR; rw [if_pos ⟨hp, hb⟩]

set_option maxHeartbeats 1000000 in
theorem lowOf_any (wd r k p b : Int) (w : World) (h0 : 0 ≤ wd) (h2 : wd ≤ 32) (hr : 0 ≤ r) (hr' : r ≤ 4294967295) (hp : 0 ≤ p) (hp' : p ≤ 4294967295) (hb : 0 ≤ b) (hb' : b ≤ 4294967295) :
    Calls Try.prog 19 #[.int .i64 wd, .int .i64 r, .int .i64 k, .int .i64 p, .int .i64 b] w fun e w' => e = .returned (.tuple #[.int .i64 (lowR wd k r p b), .int .i64 (lowE wd k p b)]) ∧ w' = w := by
  by_cases hk : k < 0 ∨ wd < k
  · have hc := cnt_bad hk
    have e1 := hide (lowR_bad (r := r) (wd := wd) (k := k) (p := p) (b := b) (by omega))
    have e2 := hide (lowE_bad (wd := wd) (k := k) (p := p) (b := b) (by omega))
    clear hc
    rcases hk with hk | hk
    · go_enter Try.func19, Try.ntmps19
      go_wp2_with fail
      go_ret2
      exact ⟨ret_two (unhide e1).symm (unhide e2).symm, rfl⟩
    · have hk' : ¬ k < 0 := by omega
      go_enter Try.func19, Try.ntmps19
      go_wp2_with fail
      go_ret2
      exact ⟨ret_two (unhide e1).symm (unhide e2).symm, rfl⟩
  · have hk0 : 0 ≤ k := by omega
    have hk1 : k ≤ wd := by omega
    have hc := cnt_pw hk0 hk1
    have hbk := pw_bd k.toNat (by omega)
    by_cases hpp : pw k.toNat ≤ p
    · have e1 := hide (lowR_bad (r := r) (wd := wd) (k := k) (p := p) (b := b) (by omega))
      have e2 := hide (lowE_bad (wd := wd) (k := k) (p := p) (b := b) (by omega))
      clear hc
      go_enter Try.func19, Try.ntmps19
      go_wp2_with (go_at_call 49; refine (two_any _ _ hk0 (by omega)).mono ?_; rintro e w' ⟨rfl, rfl⟩)
      go_ret2
      exact ⟨ret_two (unhide e1).symm (unhide e2).symm, rfl⟩
    · by_cases hbb : pw k.toNat ≤ b
      · have e1 := hide (lowR_bad (r := r) (wd := wd) (k := k) (p := p) (b := b) (by omega))
        have e2 := hide (lowE_bad (wd := wd) (k := k) (p := p) (b := b) (by omega))
        clear hc
        go_enter Try.func19, Try.ntmps19
        go_wp2_with (go_at_call 49; refine (two_any _ _ hk0 (by omega)).mono ?_; rintro e w' ⟨rfl, rfl⟩)
        go_ret2
        exact ⟨ret_two (unhide e1).symm (unhide e2).symm, rfl⟩
      · have e1 := hide (lowR_good (r := r) (wd := wd) (k := k) (p := p) (b := b) (by omega) (by omega))
        have e2 := hide (lowE_good (wd := wd) (k := k) (p := p) (b := b) (by omega) (by omega))
        clear hc
        go_enter Try.func19, Try.ntmps19
        go_wp2_with (first | (go_at_call 49; refine (two_any _ _ hk0 (by omega)).mono ?_; rintro e w' ⟨rfl, rfl⟩) | (go_at_call 50; refine (rlow_any _ _ _ _ _ _ hk0 hk1 h2 hr hr' hp hp' hb (by omega)).mono ?_; rintro e w' ⟨rfl, rfl⟩))
        go_ret2
        exact ⟨ret_two (unhide e1).symm (unhide e2).symm, rfl⟩

/-- is v what its own lowest bits tell? -/
def fitB (wd v r k p : Int) : Bool := plain.lowV wd.toNat k.toNat r p (v % pw k.toNat) == v

theorem fitB_eq {wd v r k p : Int} (hk0 : 0 ≤ k) (hk : k ≤ wd) (hv0 : 0 ≤ v) (hv1 : v < pw wd.toNat) (hp : p < cnt k wd) : fitR wd v r k p = fitB wd v r k p := by
  have h := plain.fits_iff wd.toNat k.toNat r p v (by omega) hv0 hv1
  rw [fitR_good hp, cnt_good hk0 hk]
  unfold fitB pw
  by_cases h1 : plain.lowV wd.toNat k.toNat r p (v % 2 ^ k.toNat) = v
  · rw [beq_iff_eq.2 h1]; simp; exact h.1 h1
  · rw [beq_eq_false_iff_ne.2 h1]; simp
    have := mt h.2 h1
    omega

set_option maxHeartbeats 1000000 in
theorem rfits_any (wd v r k p : Int) (w : World) (h0 : 0 ≤ k) (h1 : k ≤ wd) (h2 : wd ≤ 32) (hv : 0 ≤ v) (hv' : v ≤ 4294967295) (hr : 0 ≤ r) (hr' : r ≤ 4294967295) (hp : 0 ≤ p) (hp' : p ≤ 4294967295) :
    Calls Try.prog 53 #[.int .i64 wd, .int .i64 v, .int .i64 r, .int .i64 k, .int .i64 p] w fun e w' => e = .returned (.bool (fitB wd v r k p)) ∧ w' = w := by
  have hbk := pw_bd k.toNat (by omega)
  have hq0 := Int.emod_nonneg v (show pw k.toNat ≠ 0 by omega)
  have hq1 := Int.emod_lt_of_pos v (show 0 < pw k.toNat by omega)
  go_enter Try.func53, Try.ntmps53
  go_wp2_with (first | (go_at_call 49; refine (two_any _ _ h0 (by omega)).mono ?_; rintro e w' ⟨rfl, rfl⟩) | (go_at_call 50; refine (rlow_any _ _ _ _ _ _ h0 h1 h2 hr hr' hp hp' hq0 hq1).mono ?_; rintro e w' ⟨rfl, rfl⟩))
  go_ret
  exact ⟨rfl, rfl⟩

set_option maxHeartbeats 1000000 in
theorem fitsOf_any (wd v r k p : Int) (w : World) (h0 : 0 ≤ wd) (h2 : wd ≤ 32) (hv : 0 ≤ v) (hv' : v ≤ 4294967295) (hvw : v < pw wd.toNat) (hr : 0 ≤ r) (hr' : r ≤ 4294967295) (hp : 0 ≤ p) (hp' : p ≤ 4294967295) :
    Calls Try.prog 22 #[.int .i64 wd, .int .i64 v, .int .i64 r, .int .i64 k, .int .i64 p] w fun e w' => e = .returned (.tuple #[.bool (fitR wd v r k p), .int .i64 (fitE wd k p)]) ∧ w' = w := by
  by_cases hk : k < 0 ∨ wd < k
  · have hc := cnt_bad hk
    have e1 := hide (fitR_bad (v := v) (r := r) (wd := wd) (k := k) (p := p) (by omega))
    have e2 := hide (fitE_bad (wd := wd) (k := k) (p := p) (by omega))
    clear hc
    rcases hk with hk | hk
    · go_enter Try.func22, Try.ntmps22
      go_wp2_with fail
      go_ret2
      exact ⟨ret_bi (unhide e1).symm (unhide e2).symm, rfl⟩
    · have hk' : ¬ k < 0 := by omega
      go_enter Try.func22, Try.ntmps22
      go_wp2_with fail
      go_ret2
      exact ⟨ret_bi (unhide e1).symm (unhide e2).symm, rfl⟩
  · have hk0 : 0 ≤ k := by omega
    have hk1 : k ≤ wd := by omega
    have hc := cnt_pw hk0 hk1
    have hbk := pw_bd k.toNat (by omega)
    by_cases hpp : pw k.toNat ≤ p
    · have e1 := hide (fitR_bad (v := v) (r := r) (wd := wd) (k := k) (p := p) (by omega))
      have e2 := hide (fitE_bad (wd := wd) (k := k) (p := p) (by omega))
      clear hc
      go_enter Try.func22, Try.ntmps22
      go_wp2_with (go_at_call 49; refine (two_any _ _ hk0 (by omega)).mono ?_; rintro e w' ⟨rfl, rfl⟩)
      go_ret2
      exact ⟨ret_bi (unhide e1).symm (unhide e2).symm, rfl⟩
    · have e1 := hide (fitB_eq (v := v) (r := r) (wd := wd) (k := k) (p := p) hk0 hk1 hv hvw (by omega))
      have e2 := hide (fitE_good (wd := wd) (k := k) (p := p) (by omega))
      clear hc
      go_enter Try.func22, Try.ntmps22
      go_wp2_with (first | (go_at_call 49; refine (two_any _ _ hk0 (by omega)).mono ?_; rintro e w' ⟨rfl, rfl⟩) | (go_at_call 53; refine (rfits_any _ _ _ _ _ _ hk0 hk1 h2 hv hv' hr hr' hp hp').mono ?_; rintro e w' ⟨rfl, rfl⟩))
      go_ret2
      exact ⟨ret_bi (unhide e1).symm (unhide e2).symm, rfl⟩

end Go.Proofs.Ytgpojbgjfibblaa.bits
