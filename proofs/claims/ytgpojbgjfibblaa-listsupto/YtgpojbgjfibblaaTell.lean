/-
  The walks of pick, tells16 and tells32 (package gistkeep).
  Conditions stand in each theorem.
-/
import Derived.Test.YtgpojbgjfibblaaLowAids
namespace Go.Proofs.Ytgpojbgjfibblaa.bits
open Go.RowKit
set_option linter.unusedVariables false

/-- which of n things a raw number speaks of -/
def pk (c n : Int) : Int := (if c < 0 then -(c + 1) else c) % n
theorem pk_bd (c n : Int) (h : 0 < n) : 0 ≤ pk c n ∧ pk c n < n := by
  unfold pk; exact ⟨Int.emod_nonneg _ (by omega), Int.emod_lt_of_pos _ h⟩

set_option maxHeartbeats 400000 in
theorem pick_any (c n : Int) (w : World) (hc : -9223372036854775808 ≤ c) (hc' : c ≤ 9223372036854775807) (h : 0 < n) (h' : n ≤ 1000000000) :
    Calls Try.prog 24 #[.int .i64 c, .int .i64 n] w fun e w' => e = .returned (.int .i64 (pk c n)) ∧ w' = w := by
  by_cases h0 : c < 0
  · have e := hide (show pk c n = (-(c + 1)) % n by unfold pk; rw [if_pos h0])
    go_enter Try.func24, Try.ntmps24
    go_wp2
    go_ret
    refine ⟨ret_int ?_, rfl⟩
    rw [unhide e, ← Int.neg_tmod, Int.tmod_eq_emod_of_nonneg (by omega)]
  · have e := hide (show pk c n = c % n by unfold pk; rw [if_neg h0])
    go_enter Try.func24, Try.ntmps24
    go_wp2
    go_ret
    exact ⟨ret_int (unhide e).symm, rfl⟩

theorem mask16 (x k : Int) (h0 : 0 ≤ x) (h1 : x ≤ 65535) (hk' : k ≤ 16) :
    bits BinOp.and IntKind.u16 x (IntKind.u16.wrap ((2 ^ k.toNat - 1) % 4294967296)) = x % pw k.toNat := by
  have h2 := plain.two_pos k.toNat
  have h3 := plain.two_le (show k.toNat ≤ 16 by omega)
  have h4 : (2 : Int) ^ 16 = 65536 := by decide
  have h5 : IntKind.u16.wrap ((2 ^ k.toNat - 1) % 4294967296) = 2 ^ k.toNat - 1 := by
    rw [Int.emod_eq_of_lt (by omega) (by omega), IntKind.wrap_u16, Int.emod_eq_of_lt (by omega) (by omega)]
  rw [h5]
  unfold pw
  obtain ⟨n, rfl⟩ := Int.eq_ofNat_of_zero_le h0
  have h6 : ((2 : Int) ^ k.toNat - 1) = ((2 ^ k.toNat - 1 : Nat) : Int) := by
    have := Nat.two_pow_pos k.toNat
    rw [Int.ofNat_sub (by omega)]; simp
  rw [h6, u16_and_nat _ _ (by omega) (by have := h6; omega), Nat.and_two_pow_sub_one_eq_mod]
  simp

theorem mask32 (x k : Int) (h0 : 0 ≤ x) (h1 : x ≤ 4294967295) (hk' : k ≤ 32) :
    bits BinOp.and IntKind.u32 x (IntKind.u64.wrap (IntKind.u64.wrap (2 ^ k.toNat) - 1) % 4294967296) = x % pw k.toNat := by
  have h2 := plain.two_pos k.toNat
  have h3 := plain.two_le (show k.toNat ≤ 32 by omega)
  have h4 : (2 : Int) ^ 32 = 4294967296 := by decide
  have h5 : IntKind.u64.wrap (IntKind.u64.wrap (2 ^ k.toNat) - 1) % 4294967296 = 2 ^ k.toNat - 1 := by
    rw [wrap_two k hk', IntKind.wrap_u64, Int.emod_eq_of_lt (by omega) (by omega), Int.emod_eq_of_lt (by omega) (by omega)]
  rw [h5]
  unfold pw
  obtain ⟨n, rfl⟩ := Int.eq_ofNat_of_zero_le h0
  have h6 : ((2 : Int) ^ k.toNat - 1) = ((2 ^ k.toNat - 1 : Nat) : Int) := by
    have := Nat.two_pow_pos k.toNat
    rw [Int.ofNat_sub (by omega)]; simp
  rw [h6, u32_and_nat _ _ (by omega) (by have := h6; omega), Nat.and_two_pow_sub_one_eq_mod]
  simp

theorem lowV_mod (wd k : Nat) (r p b : Int) (hk : k ≤ wd) (hb : 0 ≤ b) (hb' : b < 2 ^ k) : plain.lowV wd k r p b % 2 ^ k = b := by
  unfold plain.lowV
  rw [plain.emod_emod_two hk, Int.add_emod_emod, show r - p + (b - (r - p)) = b by omega, Int.emod_eq_of_lt hb hb']

/-- what the plain statement asks, of a number of width wd -/
theorem tells_facts (wd r k p v : Int) (hk : 0 ≤ k) (hk' : k ≤ wd) (hp : 0 ≤ p) (hp' : p < pw k.toNat) (hv : 0 ≤ v) (hv' : v < pw wd.toNat) :
    lowE wd k p (v % pw k.toNat) = 0 ∧ fitE wd k p = 0 ∧ lowR wd k r p (v % pw k.toNat) % pw k.toNat = v % pw k.toNat ∧
    fitR wd (lowR wd k r p (v % pw k.toNat)) r k p = true ∧ fitR wd v r k p = (lowR wd k r p (v % pw k.toNat) == v) := by
  have hc := cnt_pw hk hk'
  have h2 : 0 < pw k.toNat := plain.two_pos k.toNat
  have m0 := Int.emod_nonneg v (Int.ne_of_gt h2)
  have m1 := Int.emod_lt_of_pos v h2
  have a1 : p < cnt k wd := by omega
  have a2 : v % pw k.toNat < cnt k wd := by omega
  have e1 := lowR_good (r := r) a1 a2
  have e2 : lowR wd k r p (v % pw k.toNat) % pw k.toNat = v % pw k.toNat := by
    rw [e1]; exact lowV_mod _ _ _ _ _ (by omega) m0 m1
  have b := lowR_bd wd k r p (v % pw k.toNat)
  refine ⟨lowE_good a1 a2, fitE_good a1, e2, ?_, ?_⟩
  · rw [fitB_eq hk hk' b.1 b.2 a1]
    unfold fitB
    rw [e2, ← e1]
    simp
  · rw [fitB_eq hk hk' hv hv' a1]
    unfold fitB
    rw [e1]

theorem under (x k m : Int) (h0 : 0 ≤ x) (h1 : x ≤ m) : 0 ≤ x % pw k.toNat ∧ x % pw k.toNat ≤ m ∧ x % pw k.toNat < pw k.toNat := by
  have h2 : 0 < pw k.toNat := plain.two_pos k.toNat
  have h3 := Int.emod_nonneg x (Int.ne_of_gt h2)
  have h4 := Int.emod_lt_of_pos x h2
  have h5 : x % pw k.toNat ≤ x := by
    have g1 := Int.emod_add_mul_ediv x (pw k.toNat)
    have g2 := Int.mul_nonneg (Int.le_of_lt h2) (Int.ediv_nonneg h0 (Int.le_of_lt h2))
    omega
  exact ⟨h3, by omega, h4⟩

set_option maxHeartbeats 400000 in
theorem tells16_any (r k p v : Int) (w : World) (hr : 0 ≤ r) (hr' : r ≤ 65535) (hk : 0 ≤ k) (hk' : k ≤ 16) (hp : 0 ≤ p) (hp' : p ≤ 65535) (hp2 : p < pw k.toNat) (hv : 0 ≤ v) (hv' : v ≤ 65535) :
    Calls Try.prog 25 #[.int .u16 r, .int .i64 k, .int .u16 p, .int .u16 v] w fun e w' => e = .returned (.bool true) ∧ w' = w := by
  have h16 : v < pw (16 : Int).toNat := by have := pw16; simp; omega
  obtain ⟨f1, f2, f3, f4, f5⟩ := tells_facts 16 r k p v hk hk' hp hp2 hv h16
  have h2 : 0 < pw k.toNat := plain.two_pos k.toNat
  have m0 := Int.emod_nonneg v (Int.ne_of_gt h2)
  have m1 := Int.emod_lt_of_pos v h2
  have m2 : v % pw k.toNat ≤ 65535 := by
    have h3 := plain.two_le (show k.toNat ≤ 16 by omega)
    have h4 : (2 : Int) ^ 16 = 65536 := by decide
    unfold pw at *
    omega
  obtain ⟨b1, b2⟩ := lowR16_bd k r p (v % pw k.toNat)
  have k1 := mask16 v k hv hv' hk'
  have k2 := (mask16 (lowR 16 k r p (v % pw k.toNat)) k b1 b2 hk').trans f3
  clear h16 f3 m1
  go_enter Try.func25, Try.ntmps25
  go_wp2_with (first
    | (go_at_call 18; refine (low16_any _ _ _ _ _ hr hr' hp hp' m0 m2).mono ?_; rintro e w' ⟨rfl, rfl⟩)
    | (go_at_call 21; refine (fits16_any _ _ _ _ _ (by omega) (by omega) hr hr' hp hp').mono ?_; rintro e w' ⟨rfl, rfl⟩))
  go_ret
  exact ⟨by simp [*], rfl⟩

set_option maxHeartbeats 400000 in
theorem tells32_any (r k p v : Int) (w : World) (hr : 0 ≤ r) (hr' : r ≤ 4294967295) (hk : 0 ≤ k) (hk' : k ≤ 32) (hp : 0 ≤ p) (hp' : p ≤ 4294967295) (hp2 : p < pw k.toNat) (hv : 0 ≤ v) (hv' : v ≤ 4294967295) :
    Calls Try.prog 26 #[.int .u32 r, .int .i64 k, .int .u32 p, .int .u32 v] w fun e w' => e = .returned (.bool true) ∧ w' = w := by
  have h32 : v < pw (32 : Int).toNat := by have := pw32; simp; omega
  obtain ⟨f1, f2, f3, f4, f5⟩ := tells_facts 32 r k p v hk hk' hp hp2 hv h32
  have h2 : 0 < pw k.toNat := plain.two_pos k.toNat
  have m0 := Int.emod_nonneg v (Int.ne_of_gt h2)
  have m1 := Int.emod_lt_of_pos v h2
  have m2 : v % pw k.toNat ≤ 4294967295 := by
    have h3 := plain.two_le (show k.toNat ≤ 32 by omega)
    have h4 : (2 : Int) ^ 32 = 4294967296 := by decide
    unfold pw at *
    omega
  obtain ⟨b1, b2⟩ := lowR32_bd k r p (v % pw k.toNat)
  have k1 := mask32 v k hv hv' hk'
  have k2 := (mask32 (lowR 32 k r p (v % pw k.toNat)) k b1 b2 hk').trans f3
  clear h32 f3 m1
  go_enter Try.func26, Try.ntmps26
  go_wp2_with (first
    | (go_at_call 20; refine (low32_any _ _ _ _ _ hr hr' hp hp' m0 m2).mono ?_; rintro e w' ⟨rfl, rfl⟩)
    | (go_at_call 23; refine (fits32_any _ _ _ _ _ (by omega) (by omega) hr hr' hp hp').mono ?_; rintro e w' ⟨rfl, rfl⟩))
  go_ret
  exact ⟨by simp [*], rfl⟩

end Go.Proofs.Ytgpojbgjfibblaa.bits
