/-
  The walks of the program's and the document's calls on low bits: what each returns, at which arguments.
  Conditions stand in each theorem.
-/
import Derived.Test.YtgpojbgjfibblaaProg
import Derived.Test.YtgpojbgjfibblaaPlain
import Derived.WalkKit
import Derived.WalkSpells
import Derived.WalkLawsBesides
namespace Go.Proofs.Ytgpojbgjfibblaa.bits
open Go.RowKit
set_option linter.unusedVariables false

theorem hide {p : Prop} (h : p) : Hid p := h
theorem unhide {p : Prop} (h : Hid p) : p := h
theorem ret_int {k : IntKind} {a b : Int} (h : a = b) : Ending.returned (.int k a) = .returned (.int k b) := by rw [h]
theorem ret_two {k j : IntKind} {a b c d : Int} (h : a = b) (g : c = d) : Ending.returned (.tuple #[.int k a, .int j c]) = .returned (.tuple #[.int k b, .int j d]) := by rw [h, g]

/-- how many numbers k bits tell, nought where k may not be -/
def cnt (k wd : Int) : Int := if k < 0 ∨ wd < k then 0 else 2 ^ k.toNat

theorem cnt_good {k wd : Int} (h0 : 0 ≤ k) (h1 : k ≤ wd) : cnt k wd = 2 ^ k.toNat := by
  unfold cnt; rw [if_neg (by omega)]
theorem cnt_bad {k wd : Int} (h : k < 0 ∨ wd < k) : cnt k wd = 0 := by
  unfold cnt; rw [if_pos h]
theorem cnt_bd (k wd : Int) (hw : wd ≤ 32) : 0 ≤ cnt k wd ∧ cnt k wd ≤ 4294967296 := by
  unfold cnt
  split
  · omega
  · have h1 := plain.two_pos k.toNat
    have h2 := plain.two_le (show k.toNat ≤ 32 by omega)
    have h3 : (2 : Int) ^ 32 = 4294967296 := by decide
    omega

theorem wrap_two (k : Int) (h2 : k ≤ 32) : IntKind.u64.wrap (2 ^ k.toNat) = 2 ^ k.toNat := by
  have h1 := plain.two_pos k.toNat
  have h3 := plain.two_le (show k.toNat ≤ 32 by omega)
  have h4 : (2 : Int) ^ 32 = 4294967296 := by decide
  rw [IntKind.wrap_u64]
  exact Int.emod_eq_of_lt (by omega) (by omega)

set_option maxHeartbeats 400000 in
theorem count_any (k wd : Int) (w : World) (h2 : wd ≤ 32) :
    Calls Try.prog 106 #[.int .i64 k, .int .i64 wd] w fun e w' => e = .returned (.int .u64 (cnt k wd)) ∧ w' = w := by
  by_cases h : k < 0 ∨ wd < k
  · have hc : Hid (cnt k wd = 0) := cnt_bad h
    rcases h with h | h
    all_goals
      go_enter Try.func106, Try.ntmps106
      go_wp2
      all_goals go_ret
      all_goals exact ⟨ret_int hc.out.symm, rfl⟩
  · have h0 : 0 ≤ k := by omega
    have h1 : k ≤ wd := by omega
    have hc : Hid (cnt k wd = 2 ^ k.toNat) := cnt_good h0 h1
    go_enter Try.func106, Try.ntmps106
    go_wp2
    go_ret
    exact ⟨ret_int (by rw [hc.out]; exact wrap_two k (by omega)), rfl⟩

/-- what the program's low reckons in 64 bits -/
def glow (c r p b : Int) : Int :=
  IntKind.u64.wrap (IntKind.u64.wrap (r - p) + bits BinOp.and IntKind.u64 (IntKind.u64.wrap (b - IntKind.u64.wrap (r - p))) (IntKind.u64.wrap (c - 1)))

theorem and_mask (x : Int) (k : Nat) (hk : k ≤ 32) : bits BinOp.and IntKind.u64 (IntKind.u64.wrap x) (IntKind.u64.wrap (2 ^ k - 1)) = x % 2 ^ 64 % 2 ^ k := by
  have h1 := plain.two_pos k
  have h2 := plain.two_le hk
  have h3 : (2 : Int) ^ 32 = 4294967296 := by decide
  have h5 : (2 : Int) ^ 64 = 18446744073709551616 := by decide
  have h4 : IntKind.u64.wrap (2 ^ k - 1) = 2 ^ k - 1 := by
    rw [IntKind.wrap_u64]; exact Int.emod_eq_of_lt (by omega) (by omega)
  rw [h4, IntKind.wrap_u64, h5]
  have hx0 : 0 ≤ x % 18446744073709551616 := by omega
  have hx1 : x % 18446744073709551616 < 18446744073709551616 := by omega
  generalize x % 18446744073709551616 = y at *
  obtain ⟨n, rfl⟩ := Int.eq_ofNat_of_zero_le hx0
  have h6 : ((2 : Int) ^ k - 1) = ((2 ^ k - 1 : Nat) : Int) := by
    have := Nat.two_pow_pos k
    rw [Int.ofNat_sub (by omega)]; simp
  rw [h6, u64_and_nat _ _ (by omega) (by have := h6; omega), Nat.and_two_pow_sub_one_eq_mod]
  simp

theorem glow_eq (wd k : Nat) (r p b : Int) (hk : k ≤ wd) (hw : wd ≤ 32) : glow (2 ^ k) r p b % 2 ^ wd = plain.lowV wd k r p b := by
  unfold glow
  rw [and_mask _ _ (by omega)]
  rw [IntKind.wrap_u64, IntKind.wrap_u64]
  exact plain.low_go wd k r p b hk (by omega)

/-- may k, p and b be? -/
def may (wd k p b : Int) : Prop := p < cnt k wd ∧ b < cnt k wd
theorem may_k {wd k p b : Int} (h : may wd k p b) (hp : 0 ≤ p) : 0 ≤ k ∧ k ≤ wd ∧ p < 2 ^ k.toNat ∧ b < 2 ^ k.toNat := by
  obtain ⟨h1, h2⟩ := h
  unfold cnt at h1 h2
  split at h1
  · omega
  · rename_i h3
    rw [if_neg h3] at h2
    exact ⟨by omega, by omega, h1, h2⟩

/-- what Low16 and Low32 answer -/
def lowR (wd k r p b : Int) : Int := if p < cnt k wd ∧ b < cnt k wd then plain.lowV wd.toNat k.toNat r p b else 0
def lowE (wd k p b : Int) : Int := if p < cnt k wd ∧ b < cnt k wd then 0 else 1
/-- what Fits16 and Fits32 answer -/
def fitR (wd v r k p : Int) : Bool := decide (p < cnt k wd ∧ (v - (r - p)) % 2 ^ wd.toNat < cnt k wd)
def fitE (wd k p : Int) : Int := if p < cnt k wd then 0 else 1

theorem lowR_bd (wd k r p b : Int) : 0 ≤ lowR wd k r p b ∧ lowR wd k r p b < 2 ^ wd.toNat := by
  unfold lowR
  have h := plain.two_pos wd.toNat
  split
  · exact ⟨plain.lowV_nonneg _ _ _ _ _, plain.lowV_lt _ _ _ _ _⟩
  · omega

set_option maxHeartbeats 400000 in
theorem low_bad (wd r k p b : Int) (w : World) (h2 : wd ≤ 32) (h : cnt k wd ≤ p ∨ cnt k wd ≤ b) :
    Calls Try.prog 85 #[.int .i64 wd, .int .u64 r, .int .i64 k, .int .u64 p, .int .u64 b] w fun e w' => e = .returned (.tuple #[.int .u64 0, .int .i64 1]) ∧ w' = w := by
  by_cases hp : cnt k wd ≤ p
  all_goals
    go_enter Try.func85, Try.ntmps85
    go_wp2_with (go_at_call 106; refine (count_any _ _ _ h2).mono ?_; rintro e w' ⟨rfl, rfl⟩)
    go_ret2
    exact ⟨rfl, rfl⟩

set_option maxHeartbeats 400000 in
theorem low_good (wd r k p b : Int) (w : World) (h2 : wd ≤ 32) (hp : p < cnt k wd) (hb : b < cnt k wd) :
    Calls Try.prog 85 #[.int .i64 wd, .int .u64 r, .int .i64 k, .int .u64 p, .int .u64 b] w fun e w' => e = .returned (.tuple #[.int .u64 (glow (cnt k wd) r p b), .int .i64 0]) ∧ w' = w := by
  have hc := cnt_bd k wd h2
  go_enter Try.func85, Try.ntmps85
  go_wp2_with (go_at_call 106; refine (count_any _ _ _ h2).mono ?_; rintro e w' ⟨rfl, rfl⟩)
  go_ret2
  exact ⟨rfl, rfl⟩

theorem glow_lowR (wd k r p b : Int) (h0 : 0 ≤ p) (hw0 : 0 ≤ wd) (hw : wd ≤ 32) (hp : p < cnt k wd) (hb : b < cnt k wd) :
    glow (cnt k wd) r p b % 2 ^ wd.toNat = lowR wd k r p b := by
  have hm := may_k ⟨hp, hb⟩ h0
  unfold lowR
  rw [if_pos ⟨hp, hb⟩, cnt_good hm.1 hm.2.1]
  exact glow_eq _ _ _ _ _ (by omega) (by omega)

theorem lowE_good {wd k p b : Int} (hp : p < cnt k wd) (hb : b < cnt k wd) : lowE wd k p b = 0 := by
  unfold lowE; rw [if_pos ⟨hp, hb⟩]
theorem lowE_bad {wd k p b : Int} (h : cnt k wd ≤ p ∨ cnt k wd ≤ b) : lowE wd k p b = 1 := by
  unfold lowE; rw [if_neg (by omega)]
theorem lowR_bad {wd k r p b : Int} (h : cnt k wd ≤ p ∨ cnt k wd ≤ b) : lowR wd k r p b = 0 := by
  unfold lowR; rw [if_neg (by omega)]

set_option maxHeartbeats 400000 in
theorem low16_in (r k p b : Int) (w : World) (hr : 0 ≤ r) (hr' : r ≤ 65535) (hp : 0 ≤ p) (hp' : p ≤ 65535) (hb : 0 ≤ b) (hb' : b ≤ 65535) :
    Calls Try.prog 48 #[.int .u16 r, .int .i64 k, .int .u16 p, .int .u16 b] w fun e w' => e = .returned (.tuple #[.int .u16 (lowR 16 k r p b), .int .i64 (lowE 16 k p b)]) ∧ w' = w := by
  by_cases h : cnt k 16 ≤ p ∨ cnt k 16 ≤ b
  · have e1 : Hid (lowR 16 k r p b = 0) := lowR_bad h
    have e2 : Hid (lowE 16 k p b = 1) := lowE_bad h
    go_enter Try.func48, Try.ntmps48
    go_wp2_with (go_at_call 85; refine (low_bad _ _ _ _ _ _ (by decide) h).mono ?_; rintro e w' ⟨rfl, rfl⟩)
    go_ret2
    exact ⟨ret_two e1.out.symm e2.out.symm, rfl⟩
  · have h1 : p < cnt k 16 := by omega
    have h3 : b < cnt k 16 := by omega
    have e1 : Hid (glow (cnt k 16) r p b % 2 ^ 16 = lowR 16 k r p b) := glow_lowR 16 k r p b hp (by decide) (by decide) h1 h3
    have e2 : Hid (lowE 16 k p b = 0) := lowE_good h1 h3
    go_enter Try.func48, Try.ntmps48
    go_wp2_with (go_at_call 85; refine (low_good _ _ _ _ _ _ (by decide) h1 h3).mono ?_; rintro e w' ⟨rfl, rfl⟩)
    go_ret2
    exact ⟨ret_two (by rw [← e1.out]; rfl) e2.out.symm, rfl⟩

end Go.Proofs.Ytgpojbgjfibblaa.bits
