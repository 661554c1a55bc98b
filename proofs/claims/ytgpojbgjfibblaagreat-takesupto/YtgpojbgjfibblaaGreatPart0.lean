/-
  Plain arithmetic of checks and sums: bit by bit as shifts and as rows of bits; the sum with its carries at once and at the end. Plain arithmetic of low bits: the number that k bits tell, as the document's answer and as the program reckon it. The walks of the program's and the document's calls on low bits: what each returns, at which arguments. The walks of the program's Low32, Fits16, Fits32 and of the package gist's calls of them. The walks of the document's answer on low bits (package gistref): two, mod, Low, LowOf, Fits, FitsOf.
  Conditions stand in each theorem.
-/
import Derived.Laws.BitsAllLaws
import Derived.Test.YtgpojbgjfibblaaGreatProg
import Derived.WalkKit
import Derived.WalkSpells
import Derived.WalkLawsBesides
namespace Go.Proofs.YtgpojbgjfibblaaGreat.plain
set_option linter.unusedVariables false

/-- one bit of a text goes into a check -/
def stepB (mix c : Nat) (b : Bool) : Nat := (c / 2) ^^^ (if (c % 2 == 1) != b then mix else 0)
def crcB (mix c : Nat) (l : List Bool) : Nat := l.foldl (stepB mix) c
/-- the bits of a byte, the lowest first -/
def byteBits (x : Nat) : List Bool := (List.range 8).map fun j => x / 2 ^ j % 2 == 1
def bitsOf (l : List UInt8) : List Bool := l.flatMap fun b => byteBits b.toNat

theorem byteBits_length (x : Nat) : (byteBits x).length = 8 := by simp [byteBits]
theorem byteBits_take (x j : Nat) (h : j < 8) : (byteBits x).take (j + 1) = (byteBits x).take j ++ [x / 2 ^ j % 2 == 1] := by
  rw [List.take_succ_eq_append_getElem (by simp [byteBits]; omega)]
  simp [byteBits]
theorem crcB_snoc (mix c : Nat) (l : List Bool) (b : Bool) : crcB mix c (l ++ [b]) = stepB mix (crcB mix c l) b := by
  simp [crcB, List.foldl_append]
theorem crcB_append (mix c : Nat) (l m : List Bool) : crcB mix c (l ++ m) = crcB mix (crcB mix c l) m := by
  simp [crcB, List.foldl_append]
theorem crcB_nil (mix c : Nat) : crcB mix c [] = c := rfl

theorem stepB_lt (n mix c : Nat) (b : Bool) (hm : mix < 2 ^ n) (hc : c < 2 ^ n) : stepB mix c b < 2 ^ n := by
  unfold stepB
  refine Nat.xor_lt_two_pow (by omega) ?_
  split
  · exact hm
  · exact Nat.two_pow_pos n
theorem crcB_lt (n mix c : Nat) (l : List Bool) (hm : mix < 2 ^ n) (hc : c < 2 ^ n) : crcB mix c l < 2 ^ n := by
  induction l generalizing c with
  | nil => exact hc
  | cons b l ih => exact ih _ (stepB_lt n mix c b hm hc)

theorem bitsOf_nil : bitsOf [] = [] := rfl
theorem bitsOf_snoc (l : List UInt8) (b : UInt8) : bitsOf (l ++ [b]) = bitsOf l ++ byteBits b.toNat := by
  simp [bitsOf]
theorem bitsOf_length (l : List UInt8) : (bitsOf l).length = 8 * l.length := by
  induction l with
  | nil => rfl
  | cons b l ih => 
    have e : bitsOf (b :: l) = byteBits b.toNat ++ bitsOf l := by simp [bitsOf]
    rw [e, List.length_append, byteBits_length, ih, List.length_cons]; omega

/-- the low bit that goes out -/
theorem low_xor (c x : Nat) : (c ^^^ x) % 2 = 1 ↔ ((c % 2 == 1) != (x % 2 == 1)) = true := by
  have e := Nat.testBit_xor (x := c) (y := x) (i := 0)
  simp only [Nat.testBit_zero] at e
  rcases Nat.mod_two_eq_zero_or_one c with h | h <;> rcases Nat.mod_two_eq_zero_or_one x with g | g <;> simp [h, g] at e ⊢ <;> omega

theorem stepB_yes (mix c x : Nat) (h : (c ^^^ x) % 2 = 1) : stepB mix c (x % 2 == 1) = (c / 2) ^^^ mix := by
  unfold stepB; rw [if_pos ((low_xor c x).1 h)]
theorem stepB_no (mix c x : Nat) (h : ¬ (c ^^^ x) % 2 = 1) : stepB mix c (x % 2 == 1) = c / 2 := by
  unfold stepB; rw [if_neg (mt (low_xor c x).2 h)]; simp

/-- the bits of a check behind one step -/
theorem stepB_testBit (mix c k : Nat) (b : Bool) : (stepB mix c b).testBit k = (c.testBit (k + 1) != ((c.testBit 0 != b) && mix.testBit k)) := by
  unfold stepB
  rw [Nat.testBit_xor, Nat.testBit_div_two]
  have e : c.testBit 0 = (c % 2 == 1) := by simp [Nat.testBit_zero]; rcases Nat.mod_two_eq_zero_or_one c with h | h <;> simp [h]
  rw [e]
  by_cases h : ((c % 2 == 1) != b) = true
  · rw [if_pos h, h]; cases c.testBit (k + 1) <;> cases mix.testBit k <;> rfl
  · rw [if_neg h]
    have h' : ((c % 2 == 1) != b) = false := by simpa using h
    rw [h']; cases c.testBit (k + 1) <;> simp

/-- the number of a row of bits, from the top on -/
theorem top_step (c k : Nat) : 2 * (c / 2 ^ (k + 1)) + (if c.testBit k then 1 else 0) = c / 2 ^ k := by
  have e : c / 2 ^ (k + 1) = c / 2 ^ k / 2 := by rw [Nat.pow_succ, Nat.div_div_eq_div_mul]
  rw [e, Nat.testBit_eq_decide_div_mod_eq]
  generalize c / 2 ^ k = q
  by_cases h : q % 2 = 1 <;> simp [h] <;> omega

/-- the sum, with all carries put back -/
def fold16 (n : Nat) : Nat := if n = 0 then 0 else (n - 1) % 65535 + 1
theorem fold16_id (n : Nat) (h : n ≤ 65535) : fold16 n = n := by unfold fold16; split <;> omega
theorem fold16_carry (n : Nat) : fold16 (n % 65536 + n / 65536) = fold16 n := by
  unfold fold16
  by_cases h : n = 0
  · subst h; rfl
  · rw [if_neg (by omega), if_neg h]; omega
theorem fold16_le (n : Nat) : fold16 n ≤ 65535 := by unfold fold16; split <;> omega
theorem fold16_add (n d : Nat) : fold16 (fold16 n + d) = fold16 (n + d) := by
  unfold fold16
  by_cases h : n = 0
  · subst h; simp
  · rw [if_neg h, if_neg (by omega), if_neg (by omega)]; omega

/-- what the first k bytes of a text add up to -/
def psum (l : List UInt8) : Nat → Nat
  | 0 => 0
  | k + 1 => psum l k + (if k % 2 = 0 then 256 else 1) * (l[k]?.getD 0).toNat
theorem psum_le (l : List UInt8) (k : Nat) : psum l k ≤ 65280 * k := by
  induction k with
  | zero => simp [psum]
  | succ k ih =>
    have h := (l[k]?.getD 0).toNat_lt
    simp only [psum]
    split <;> omega
theorem psum_even (l : List UInt8) (k : Nat) (h : k % 2 = 0) : psum l (k + 1) = psum l k + 256 * (l[k]?.getD 0).toNat := by
  simp [psum, h]
theorem psum_odd (l : List UInt8) (k : Nat) (h : k % 2 = 1) : psum l (k + 1) = psum l k + (l[k]?.getD 0).toNat := by
  simp [psum, h]
theorem psum_past (l : List UInt8) (k : Nat) (h : l.length ≤ k) : psum l (k + 1) = psum l k := by
  simp [psum, List.getElem?_eq_none h]

/-- the sum of a text, as the document has it -/
def sumOf (l : List UInt8) : Nat := 65535 - fold16 (psum l l.length)

/-- the program's step: the carry goes back at once -/
theorem carry_step (t d : Nat) (ht : t ≤ 65535) (hd : d ≤ 65280) : (t + d) % 65536 + (t + d) / 65536 = fold16 (t + d) := by
  rw [← fold16_carry, fold16_id]
  omega

/-- where a check begins, what is mixed in -/
def startOf (wd : Nat) : Nat := 2 ^ wd - 1
def mixOf (wd : Nat) : Nat := if wd = 3 then 6 else if wd = 7 then 121 else 224
/-- the check of a text -/
def checkOf (wd : Nat) (l : List UInt8) : Nat := crcB (mixOf wd) (startOf wd) (bitsOf l)

end Go.Proofs.YtgpojbgjfibblaaGreat.plain

namespace Go.Proofs.YtgpojbgjfibblaaGreat.plain
set_option linter.unusedVariables false

/-- the number of width w that k low bits tell -/
def lowV (wd k : Nat) (r p b : Int) : Int := (r - p + (b - (r - p)) % 2 ^ k) % 2 ^ wd

theorem two_pos (k : Nat) : (0 : Int) < 2 ^ k := Int.pow_pos (by decide)

theorem two_dvd {k n : Nat} (h : k ≤ n) : (2 ^ k : Int) ∣ 2 ^ n := by
  obtain ⟨d, rfl⟩ := Nat.exists_eq_add_of_le h
  exact ⟨2 ^ d, by rw [Int.pow_add]⟩

theorem two_le {k n : Nat} (h : k ≤ n) : (2 ^ k : Int) ≤ 2 ^ n :=
  Int.le_of_dvd (two_pos n) (two_dvd h)

theorem emod_emod_two {k n : Nat} (h : k ≤ n) (x : Int) : x % 2 ^ n % 2 ^ k = x % 2 ^ k :=
  Int.emod_emod_of_dvd x (two_dvd h)

/-- the document's answer is that number -/
theorem low_ref (wd k : Nat) (r p b : Int) (hk : k ≤ wd) (hb0 : 0 ≤ b) (hb1 : b < 2 ^ k) :
    (let f := (r - p) % 2 ^ wd
     let v := f - f % 2 ^ k + b
     (if v < f then v + 2 ^ k else v) % 2 ^ wd) = lowV wd k r p b := by
  simp only [lowV]
  have hf : (r - p) % 2 ^ wd % 2 ^ k = (r - p) % 2 ^ k := emod_emod_two hk _
  have h2 := two_pos k
  have hm0 := Int.emod_nonneg (r - p) (Int.ne_of_gt h2)
  have hm1 := Int.emod_lt_of_pos (r - p) h2
  have hd : (r - p + (b - (r - p)) % 2 ^ k) % 2 ^ wd = ((r - p) % 2 ^ wd + (b - (r - p)) % 2 ^ k) % 2 ^ wd := by
    rw [Int.emod_add_emod]
  have hs : (b - (r - p)) % 2 ^ k = (b - (r - p) % 2 ^ k) % 2 ^ k := by
    rw [Int.sub_emod_emod]
  rw [hd, hs, hf]
  generalize (r - p) % 2 ^ k = m at *
  generalize (r - p) % 2 ^ wd = f at *
  generalize (2 : Int) ^ k = c at *
  by_cases h : b < m
  · have e : (b - m) % c = b - m + c := by
      rw [← Int.add_emod_right, Int.emod_eq_of_lt (by omega) (by omega)]
    rw [e, if_pos (by omega)]
    congr 1; omega
  · have e : (b - m) % c = b - m := Int.emod_eq_of_lt (by omega) (by omega)
    rw [e, if_neg (by omega)]
    congr 1; omega

theorem lowV_nonneg (wd k : Nat) (r p b : Int) : 0 ≤ lowV wd k r p b := Int.emod_nonneg _ (Int.ne_of_gt (two_pos wd))
theorem lowV_lt (wd k : Nat) (r p b : Int) : lowV wd k r p b < 2 ^ wd := Int.emod_lt_of_pos _ (two_pos wd)

/-- the program's way, in 64 bits -/
theorem low_go (wd k : Nat) (r p b : Int) (hk : k ≤ wd) (hw : wd ≤ 64) :
    (let f := (r - p) % 2 ^ 64
     ((f + (b - f) % 2 ^ 64 % 2 ^ k) % 2 ^ 64) % 2 ^ wd) = lowV wd k r p b := by
  simp only [lowV]
  rw [emod_emod_two hw, emod_emod_two (show k ≤ 64 by omega)]
  have hs : (b - (r - p) % 2 ^ 64) % 2 ^ k = (b - (r - p)) % 2 ^ k := by
    rw [← Int.sub_emod_emod, emod_emod_two (show k ≤ 64 by omega), Int.sub_emod_emod]
  rw [hs, ← Int.emod_add_emod, emod_emod_two hw, Int.emod_add_emod]

/-- a number is one that k bits tell just if the way to it is below 2 to the power k -/
theorem fits_iff (wd k : Nat) (r p v : Int) (hk : k ≤ wd) (hv0 : 0 ≤ v) (hv1 : v < 2 ^ wd) :
    lowV wd k r p (v % 2 ^ k) = v ↔ (v - (r - p)) % 2 ^ wd < 2 ^ k := by
  have hkp := two_pos k
  have hwp := two_pos wd
  have e : (v % 2 ^ k - (r - p)) % 2 ^ k = (v - (r - p)) % 2 ^ k := Int.emod_sub_emod _ _ _
  have hle := two_le hk
  have hb := Int.emod_lt_of_pos (v - (r - p)) hkp
  have hb0 := Int.emod_nonneg (v - (r - p)) (Int.ne_of_gt hkp)
  unfold lowV
  rw [e]
  constructor
  · intro h
    have h1 : (v - (r - p)) % 2 ^ wd = (v - (r - p)) % 2 ^ k % 2 ^ wd := by
      conv => lhs; rw [← h]
      rw [Int.emod_sub_emod]
      congr 1; omega
    rw [h1, Int.emod_eq_of_lt hb0 (by omega)]
    exact hb
  · intro h
    have h1 : (v - (r - p)) % 2 ^ k = (v - (r - p)) % 2 ^ wd := by
      rw [← emod_emod_two hk, Int.emod_eq_of_lt (Int.emod_nonneg _ (Int.ne_of_gt hwp)) h]
    rw [h1, Int.add_emod_emod]
    rw [show r - p + (v - (r - p)) = v by omega]
    exact Int.emod_eq_of_lt hv0 hv1

end Go.Proofs.YtgpojbgjfibblaaGreat.plain

namespace Go.Proofs.YtgpojbgjfibblaaGreat.bits
open Go.RowKit
set_option linter.unusedVariables false

theorem hide {p : Prop} (h : p) : Hid p := h
theorem unhide {p : Prop} (h : Hid p) : p := h
theorem ret_int {k : IntKind} {a b : Int} (h : a = b) : Ending.returned (.int k a) = .returned (.int k b) := by rw [h]
theorem ret_two {k j : IntKind} {a b c d : Int} (h : a = b) (g : c = d) : Ending.returned (.tuple #[.int k a, .int j c]) = .returned (.tuple #[.int k b, .int j d]) := by rw [h, g]

/-- how many numbers k bits tell, nought where k may not be -/
def cnt (k wd : Int) : Int := if k < 0 ∨ wd < k then 0 else 2 ^ k.toNat

theorem cnt_good {k wd : Int} (h0 : 0 ≤ k) (h1 : k ≤ wd) : cnt k wd = 2 ^ k.toNat := by
  unfold cnt; rw [if_neg (by omega)]
theorem cnt_bad {k wd : Int} (h : k < 0 ∨ wd < k) : cnt k wd = 0 := by
  unfold cnt; rw [if_pos h]
theorem cnt_bd (k wd : Int) (hw : wd ≤ 32) : 0 ≤ cnt k wd ∧ cnt k wd ≤ 4294967296 := by
  unfold cnt
  split
  · omega
  · have h1 := plain.two_pos k.toNat
    have h2 := plain.two_le (show k.toNat ≤ 32 by omega)
    have h3 : (2 : Int) ^ 32 = 4294967296 := by decide
    omega

theorem wrap_two (k : Int) (h2 : k ≤ 32) : IntKind.u64.wrap (2 ^ k.toNat) = 2 ^ k.toNat := by
  have h1 := plain.two_pos k.toNat
  have h3 := plain.two_le (show k.toNat ≤ 32 by omega)
  have h4 : (2 : Int) ^ 32 = 4294967296 := by decide
  rw [IntKind.wrap_u64]
  exact Int.emod_eq_of_lt (by omega) (by omega)

set_option maxHeartbeats 400000 in
theorem count_any (k wd : Int) (w : World) (h2 : wd ≤ 32) :
    Calls Tryz.prog 147 #[.int .i64 k, .int .i64 wd] w fun e w' => e = .returned (.int .u64 (cnt k wd)) ∧ w' = w := by
  by_cases h : k < 0 ∨ wd < k
  · have hc : Hid (cnt k wd = 0) := cnt_bad h
    rcases h with h | h
    all_goals
      go_enter Tryz.func147, Tryz.ntmps147
      go_wp2
      all_goals go_ret
      all_goals exact ⟨ret_int hc.out.symm, rfl⟩
  · have h0 : 0 ≤ k := by omega
    have h1 : k ≤ wd := by omega
    have hc : Hid (cnt k wd = 2 ^ k.toNat) := cnt_good h0 h1
    go_enter Tryz.func147, Tryz.ntmps147
    go_wp2
    go_ret
    exact ⟨ret_int (by rw [hc.out]; exact wrap_two k (by omega)), rfl⟩

/-- what the program's low reckons in 64 bits -/
def glow (c r p b : Int) : Int :=
  IntKind.u64.wrap (IntKind.u64.wrap (r - p) + bits BinOp.and IntKind.u64 (IntKind.u64.wrap (b - IntKind.u64.wrap (r - p))) (IntKind.u64.wrap (c - 1)))

theorem and_mask (x : Int) (k : Nat) (hk : k ≤ 32) : bits BinOp.and IntKind.u64 (IntKind.u64.wrap x) (IntKind.u64.wrap (2 ^ k - 1)) = x % 2 ^ 64 % 2 ^ k := by
  have h1 := plain.two_pos k
  have h2 := plain.two_le hk
  have h3 : (2 : Int) ^ 32 = 4294967296 := by decide
  have h5 : (2 : Int) ^ 64 = 18446744073709551616 := by decide
  have h4 : IntKind.u64.wrap (2 ^ k - 1) = 2 ^ k - 1 := by
    rw [IntKind.wrap_u64]; exact Int.emod_eq_of_lt (by omega) (by omega)
  rw [h4, IntKind.wrap_u64, h5]
  have hx0 : 0 ≤ x % 18446744073709551616 := by omega
  have hx1 : x % 18446744073709551616 < 18446744073709551616 := by omega
  generalize x % 18446744073709551616 = y at *
  obtain ⟨n, rfl⟩ := Int.eq_ofNat_of_zero_le hx0
  have h6 : ((2 : Int) ^ k - 1) = ((2 ^ k - 1 : Nat) : Int) := by
    have := Nat.two_pow_pos k
    rw [Int.ofNat_sub (by omega)]; simp
  rw [h6, u64_and_nat _ _ (by omega) (by have := h6; omega), Nat.and_two_pow_sub_one_eq_mod]
  simp

theorem glow_eq (wd k : Nat) (r p b : Int) (hk : k ≤ wd) (hw : wd ≤ 32) : glow (2 ^ k) r p b % 2 ^ wd = plain.lowV wd k r p b := by
  unfold glow
  rw [and_mask _ _ (by omega)]
  rw [IntKind.wrap_u64, IntKind.wrap_u64]
  exact plain.low_go wd k r p b hk (by omega)

/-- may k, p and b be? -/
def may (wd k p b : Int) : Prop := p < cnt k wd ∧ b < cnt k wd
theorem may_k {wd k p b : Int} (h : may wd k p b) (hp : 0 ≤ p) : 0 ≤ k ∧ k ≤ wd ∧ p < 2 ^ k.toNat ∧ b < 2 ^ k.toNat := by
  obtain ⟨h1, h2⟩ := h
  unfold cnt at h1 h2
  split at h1
  · omega
  · rename_i h3
    rw [if_neg h3] at h2
    exact ⟨by omega, by omega, h1, h2⟩

/-- what Low16 and Low32 answer -/
def lowR (wd k r p b : Int) : Int := if p < cnt k wd ∧ b < cnt k wd then plain.lowV wd.toNat k.toNat r p b else 0
def lowE (wd k p b : Int) : Int := if p < cnt k wd ∧ b < cnt k wd then 0 else 1
/-- what Fits16 and Fits32 answer -/
def fitR (wd v r k p : Int) : Bool := decide (p < cnt k wd ∧ (v - (r - p)) % 2 ^ wd.toNat < cnt k wd)
def fitE (wd k p : Int) : Int := if p < cnt k wd then 0 else 1

theorem lowR_bd (wd k r p b : Int) : 0 ≤ lowR wd k r p b ∧ lowR wd k r p b < 2 ^ wd.toNat := by
  unfold lowR
  have h := plain.two_pos wd.toNat
  split
  · exact ⟨plain.lowV_nonneg _ _ _ _ _, plain.lowV_lt _ _ _ _ _⟩
  · omega

set_option maxHeartbeats 400000 in
theorem low_bad (wd r k p b : Int) (w : World) (h2 : wd ≤ 32) (h : cnt k wd ≤ p ∨ cnt k wd ≤ b) :
    Calls Tryz.prog 141 #[.int .i64 wd, .int .u64 r, .int .i64 k, .int .u64 p, .int .u64 b] w fun e w' => e = .returned (.tuple #[.int .u64 0, .int .i64 1]) ∧ w' = w := by
  by_cases hp : cnt k wd ≤ p
  all_goals
    go_enter Tryz.func141, Tryz.ntmps141
    go_wp2_with (go_at_call 147; refine (count_any _ _ _ h2).mono ?_; rintro e w' ⟨rfl, rfl⟩)
    go_ret2
    exact ⟨rfl, rfl⟩

set_option maxHeartbeats 400000 in
theorem low_good (wd r k p b : Int) (w : World) (h2 : wd ≤ 32) (hp : p < cnt k wd) (hb : b < cnt k wd) :
    Calls Tryz.prog 141 #[.int .i64 wd, .int .u64 r, .int .i64 k, .int .u64 p, .int .u64 b] w fun e w' => e = .returned (.tuple #[.int .u64 (glow (cnt k wd) r p b), .int .i64 0]) ∧ w' = w := by
  have hc := cnt_bd k wd h2
  go_enter Tryz.func141, Tryz.ntmps141
  go_wp2_with (go_at_call 147; refine (count_any _ _ _ h2).mono ?_; rintro e w' ⟨rfl, rfl⟩)
  go_ret2
  exact ⟨rfl, rfl⟩

theorem glow_lowR (wd k r p b : Int) (h0 : 0 ≤ p) (hw0 : 0 ≤ wd) (hw : wd ≤ 32) (hp : p < cnt k wd) (hb : b < cnt k wd) :
    glow (cnt k wd) r p b % 2 ^ wd.toNat = lowR wd k r p b := by
  have hm := may_k ⟨hp, hb⟩ h0
  unfold lowR
  rw [if_pos ⟨hp, hb⟩, cnt_good hm.1 hm.2.1]
  exact glow_eq _ _ _ _ _ (by omega) (by omega)

theorem lowE_good {wd k p b : Int} (hp : p < cnt k wd) (hb : b < cnt k wd) : lowE wd k p b = 0 := by
  unfold lowE; rw [if_pos ⟨hp, hb⟩]
theorem lowE_bad {wd k p b : Int} (h : cnt k wd ≤ p ∨ cnt k wd ≤ b) : lowE wd k p b = 1 := by
  unfold lowE; rw [if_neg (by omega)]
theorem lowR_bad {wd k r p b : Int} (h : cnt k wd ≤ p ∨ cnt k wd ≤ b) : lowR wd k r p b = 0 := by
  unfold lowR; rw [if_neg (by omega)]

set_option maxHeartbeats 400000 in
theorem low16_in (r k p b : Int) (w : World) (hr : 0 ≤ r) (hr' : r ≤ 65535) (hp : 0 ≤ p) (hp' : p ≤ 65535) (hb : 0 ≤ b) (hb' : b ≤ 65535) :
    Calls Tryz.prog 131 #[.int .u16 r, .int .i64 k, .int .u16 p, .int .u16 b] w fun e w' => e = .returned (.tuple #[.int .u16 (lowR 16 k r p b), .int .i64 (lowE 16 k p b)]) ∧ w' = w := by
  by_cases h : cnt k 16 ≤ p ∨ cnt k 16 ≤ b
  · have e1 : Hid (lowR 16 k r p b = 0) := lowR_bad h
    have e2 : Hid (lowE 16 k p b = 1) := lowE_bad h
    go_enter Tryz.func131, Tryz.ntmps131
    go_wp2_with (go_at_call 141; refine (low_bad _ _ _ _ _ _ (by decide) h).mono ?_; rintro e w' ⟨rfl, rfl⟩)
    go_ret2
    exact ⟨ret_two e1.out.symm e2.out.symm, rfl⟩
  · have h1 : p < cnt k 16 := by omega
    have h3 : b < cnt k 16 := by omega
    have e1 : Hid (glow (cnt k 16) r p b % 2 ^ 16 = lowR 16 k r p b) := glow_lowR 16 k r p b hp (by decide) (by decide) h1 h3
    have e2 : Hid (lowE 16 k p b = 0) := lowE_good h1 h3
    go_enter Tryz.func131, Tryz.ntmps131
    go_wp2_with (go_at_call 141; refine (low_good _ _ _ _ _ _ (by decide) h1 h3).mono ?_; rintro e w' ⟨rfl, rfl⟩)
    go_ret2
    exact ⟨ret_two (by rw [← e1.out]; rfl) e2.out.symm, rfl⟩

end Go.Proofs.YtgpojbgjfibblaaGreat.bits

namespace Go.Proofs.YtgpojbgjfibblaaGreat.bits
open Go.RowKit
set_option linter.unusedVariables false

theorem ret_bi {j : IntKind} {a b : Bool} {c d : Int} (h : a = b) (g : c = d) : Ending.returned (.tuple #[.bool a, .int j c]) = .returned (.tuple #[.bool b, .int j d]) := by rw [h, g]

set_option maxHeartbeats 400000 in
theorem low32_in (r k p b : Int) (w : World) (hr : 0 ≤ r) (hr' : r ≤ 4294967295) (hp : 0 ≤ p) (hp' : p ≤ 4294967295) (hb : 0 ≤ b) (hb' : b ≤ 4294967295) :
    Calls Tryz.prog 132 #[.int .u32 r, .int .i64 k, .int .u32 p, .int .u32 b] w fun e w' => e = .returned (.tuple #[.int .u32 (lowR 32 k r p b), .int .i64 (lowE 32 k p b)]) ∧ w' = w := by
  by_cases h : cnt k 32 ≤ p ∨ cnt k 32 ≤ b
  · have e1 : Hid (lowR 32 k r p b = 0) := lowR_bad h
    have e2 : Hid (lowE 32 k p b = 1) := lowE_bad h
    go_enter Tryz.func132, Tryz.ntmps132
    go_wp2_with (go_at_call 141; refine (low_bad _ _ _ _ _ _ (by decide) h).mono ?_; rintro e w' ⟨rfl, rfl⟩)
    go_ret2
    exact ⟨ret_two e1.out.symm e2.out.symm, rfl⟩
  · have h1 : p < cnt k 32 := by omega
    have h3 : b < cnt k 32 := by omega
    have e1 : Hid (glow (cnt k 32) r p b % 2 ^ 32 = lowR 32 k r p b) := glow_lowR 32 k r p b hp (by decide) (by decide) h1 h3
    have e2 : Hid (lowE 32 k p b = 0) := lowE_good h1 h3
    go_enter Tryz.func132, Tryz.ntmps132
    go_wp2_with (go_at_call 141; refine (low_good _ _ _ _ _ _ (by decide) h1 h3).mono ?_; rintro e w' ⟨rfl, rfl⟩)
    go_ret2
    exact ⟨ret_two (by rw [← e1.out]; rfl) e2.out.symm, rfl⟩

theorem ahead_eq (wd : Nat) (v r p : Int) (hw : wd ≤ 32) :
    bits BinOp.and IntKind.u64 (IntKind.u64.wrap (v - IntKind.u64.wrap (r - p))) (IntKind.u64.wrap (2 ^ wd - 1)) = (v - (r - p)) % 2 ^ wd := by
  rw [and_mask _ _ hw, plain.emod_emod_two (show wd ≤ 64 by omega), IntKind.wrap_u64]
  have e : (18446744073709551616 : Int) = 2 ^ 64 := by decide
  rw [e, ← Int.sub_emod_emod, plain.emod_emod_two (show wd ≤ 64 by omega), Int.sub_emod_emod]

theorem fitR_good {wd v r k p : Int} (hp : p < cnt k wd) : fitR wd v r k p = decide ((v - (r - p)) % 2 ^ wd.toNat < cnt k wd) := by
  unfold fitR; simp [hp]
theorem fitR_bad {wd v r k p : Int} (hp : cnt k wd ≤ p) : fitR wd v r k p = false := by
  unfold fitR; simp; omega
theorem fitE_good {wd k p : Int} (hp : p < cnt k wd) : fitE wd k p = 0 := by unfold fitE; rw [if_pos hp]
theorem fitE_bad {wd k p : Int} (hp : cnt k wd ≤ p) : fitE wd k p = 1 := by unfold fitE; rw [if_neg (by omega)]

set_option maxHeartbeats 400000 in
theorem fits_any (wd v r k p : Int) (w : World) (h0 : 0 ≤ wd) (h2 : wd ≤ 32) :
    Calls Tryz.prog 148 #[.int .i64 wd, .int .u64 v, .int .u64 r, .int .i64 k, .int .u64 p] w fun e w' => e = .returned (.tuple #[.bool (fitR wd v r k p), .int .i64 (fitE wd k p)]) ∧ w' = w := by
  by_cases hp : cnt k wd ≤ p
  · have e1 : Hid (fitR wd v r k p = false) := fitR_bad hp
    have e2 : Hid (fitE wd k p = 1) := fitE_bad hp
    go_enter Tryz.func148, Tryz.ntmps148
    go_wp2_with (go_at_call 147; refine (count_any _ _ _ h2).mono ?_; rintro e w' ⟨rfl, rfl⟩)
    go_ret2
    exact ⟨ret_bi e1.out.symm e2.out.symm, rfl⟩
  · have hp' : p < cnt k wd := by omega
    have e1 : Hid (fitR wd v r k p = decide ((v - (r - p)) % 2 ^ wd.toNat < cnt k wd)) := fitR_good hp'
    have e2 : Hid (fitE wd k p = 0) := fitE_good hp'
    have e3 : Hid (cnt wd wd = 2 ^ wd.toNat) := cnt_good h0 (by omega)
    go_enter Tryz.func148, Tryz.ntmps148
    go_wp2_with (go_at_call 147; refine (count_any _ _ _ h2).mono ?_; rintro e w' ⟨rfl, rfl⟩)
    go_ret2
    refine ⟨ret_bi ?_ e2.out.symm, rfl⟩
    rw [e1.out, e3.out, ahead_eq _ _ _ _ (by omega)]

set_option maxHeartbeats 400000 in
theorem fits16_in (v r k p : Int) (w : World) (hv : 0 ≤ v) (hv' : v ≤ 65535) (hr : 0 ≤ r) (hr' : r ≤ 65535) (hp : 0 ≤ p) (hp' : p ≤ 65535) :
    Calls Tryz.prog 142 #[.int .u16 v, .int .u16 r, .int .i64 k, .int .u16 p] w fun e w' => e = .returned (.tuple #[.bool (fitR 16 v r k p), .int .i64 (fitE 16 k p)]) ∧ w' = w := by
  go_enter Tryz.func142, Tryz.ntmps142
  go_wp2_with (go_at_call 148; refine (fits_any _ _ _ _ _ _ (by decide) (by decide)).mono ?_; rintro e w' ⟨rfl, rfl⟩)
  go_ret2
  exact ⟨rfl, rfl⟩

set_option maxHeartbeats 400000 in
theorem fits32_in (v r k p : Int) (w : World) (hv : 0 ≤ v) (hv' : v ≤ 4294967295) (hr : 0 ≤ r) (hr' : r ≤ 4294967295) (hp : 0 ≤ p) (hp' : p ≤ 4294967295) :
    Calls Tryz.prog 143 #[.int .u32 v, .int .u32 r, .int .i64 k, .int .u32 p] w fun e w' => e = .returned (.tuple #[.bool (fitR 32 v r k p), .int .i64 (fitE 32 k p)]) ∧ w' = w := by
  go_enter Tryz.func143, Tryz.ntmps143
  go_wp2_with (go_at_call 148; refine (fits_any _ _ _ _ _ _ (by decide) (by decide)).mono ?_; rintro e w' ⟨rfl, rfl⟩)
  go_ret2
  exact ⟨rfl, rfl⟩

end Go.Proofs.YtgpojbgjfibblaaGreat.bits

namespace Go.Proofs.YtgpojbgjfibblaaGreat.bits
open Go.RowKit
set_option linter.unusedVariables false

/-- 2 to the power j -/
def pw (j : Nat) : Int := 2 ^ j
theorem pw_succ (j : Nat) : pw (j + 1) = 2 * pw j := by unfold pw; rw [Int.pow_succ, Int.mul_comm]
theorem pw_bd (j : Nat) (h : j ≤ 32) : 1 ≤ pw j ∧ pw j ≤ 4294967296 := by
  have h1 := plain.two_pos j
  have h2 := plain.two_le h
  have h3 : (2 : Int) ^ 32 = 4294967296 := by decide
  unfold pw; omega

set_option maxHeartbeats 400000 in
theorem two_any (k : Int) (w : World) (h0 : 0 ≤ k) (h1 : k ≤ 32) :
    Calls Tryz.prog 109 #[.int .i64 k] w fun e w' => e = .returned (.int .i64 (pw k.toNat)) ∧ w' = w := by
  obtain ⟨n, rfl⟩ := Int.eq_ofNat_of_zero_le h0
  rw [Int.toNat_natCast]
  go_enter Tryz.func109, Tryz.ntmps109
  go_wp2
  go_loop [3, 4] (fun m i => ∃ j : Nat, j ≤ n ∧ i = .int .i64 j ∧ m = .int .i64 (pw j)) (fun _ i => n - (intOf i).toNat)
  case atStart => exact ⟨0, Nat.zero_le _, rfl, rfl⟩
  case round =>
    obtain ⟨j, hj, rfl, rfl⟩ := hrel
    have hb := pw_bd j (by omega)
    by_cases hlt : j < n
    · have hs : Hid (pw (j + 1) = 2 * pw j) := pw_succ j
      go_wp2
      go_round
      case rel => exact ⟨j + 1, by omega, by go_num, by rw [hs.out]⟩
      case measure => simp [intOf]; omega
    · have e : j = n := by omega
      subst e
      go_wp2
      go_ret
      exact ⟨rfl, rfl⟩

theorem tmod_gt (n c : Int) (hc : 0 < c) : -c < n.tmod c := by
  have := Int.tmod_lt_of_pos (-n) hc
  rw [Int.neg_tmod] at this
  omega
theorem tmod_neg (n c : Int) (hc : 0 < c) (h : n.tmod c < 0) : n.tmod c + c = n % c := by
  have h1 : ¬ 0 ≤ n := by
    intro h0
    have := Int.tmod_nonneg c h0
    omega
  have h2 := Int.tmod_add_mul_tdiv n c
  have h3 : (n.tmod c + c) % c = n % c := by
    conv => rhs; rw [← h2]
    simp
  have h4 : -c < n.tmod c := by
    have := Int.tmod_lt_of_pos (-n) hc
    rw [Int.neg_tmod] at this
    omega
  rw [← h3]
  exact (Int.emod_eq_of_lt (by omega) (by omega)).symm
theorem tmod_pos (n c : Int) (hc : 0 < c) (h : 0 ≤ n.tmod c) : n.tmod c = n % c := by
  have h2 := Int.tmod_add_mul_tdiv n c
  have h3 : (n.tmod c) % c = n % c := by
    conv => rhs; rw [← h2]
    simp
  have h4 : n.tmod c < c := Int.tmod_lt_of_pos n hc
  rw [← h3]
  exact (Int.emod_eq_of_lt (by omega) (by omega)).symm

set_option maxHeartbeats 400000 in
theorem mod_any (n k : Int) (w : World) (h0 : 0 ≤ k) (h1 : k ≤ 32) (hn : -9223372036854775808 ≤ n) (hn' : n ≤ 9223372036854775807) :
    Calls Tryz.prog 82 #[.int .i64 n, .int .i64 k] w fun e w' => e = .returned (.int .i64 (n % pw k.toNat)) ∧ w' = w := by
  have hb := pw_bd k.toNat (by omega)
  by_cases h : n.tmod (pw k.toNat) < 0
  · have e : Hid (n.tmod (pw k.toNat) + pw k.toNat = n % pw k.toNat) := tmod_neg _ _ (by omega) h
    have hg := tmod_gt n (pw k.toNat) (by omega)
    go_enter Tryz.func82, Tryz.ntmps82
    go_wp2_with (go_at_call 109; refine (two_any _ _ h0 h1).mono ?_; rintro e w' ⟨rfl, rfl⟩)
    go_ret
    exact ⟨ret_int e.out, rfl⟩
  · have e : Hid (n.tmod (pw k.toNat) = n % pw k.toNat) := tmod_pos _ _ (by omega) (by omega)
    go_enter Tryz.func82, Tryz.ntmps82
    go_wp2_with (go_at_call 109; refine (two_any _ _ h0 h1).mono ?_; rintro e w' ⟨rfl, rfl⟩)
    go_ret
    exact ⟨ret_int e.out, rfl⟩

/-- the document's low number, from what two and mod give -/
theorem low_ref (wd k r p b : Int) (hk0 : 0 ≤ k) (hk : k ≤ wd) (hb0 : 0 ≤ b) (hb1 : b < pw k.toNat) (v : Int)
    (hv : v = (r - p) % pw wd.toNat - (r - p) % pw wd.toNat % pw k.toNat + b) :
    (v < (r - p) % pw wd.toNat → (v + pw k.toNat) % pw wd.toNat = plain.lowV wd.toNat k.toNat r p b) ∧
    (¬ v < (r - p) % pw wd.toNat → v % pw wd.toNat = plain.lowV wd.toNat k.toNat r p b) := by
  have h := plain.low_ref wd.toNat k.toNat r p b (by omega) hb0 hb1
  simp only at h
  subst hv
  unfold pw at *
  constructor
  · intro hlt; rw [if_pos hlt] at h; exact h
  · intro hlt; rw [if_neg hlt] at h; exact h

set_option maxHeartbeats 1000000 in
theorem rlow_any (wd r k p b : Int) (w : World) (h0 : 0 ≤ k) (h1 : k ≤ wd) (h2 : wd ≤ 32) (hr : 0 ≤ r) (hr' : r ≤ 4294967295) (hp : 0 ≤ p) (hp' : p ≤ 4294967295) (hb : 0 ≤ b) (hb' : b < pw k.toNat) :
    Calls Tryz.prog 98 #[.int .i64 wd, .int .i64 r, .int .i64 k, .int .i64 p, .int .i64 b] w fun e w' => e = .returned (.int .i64 (plain.lowV wd.toNat k.toNat r p b)) ∧ w' = w := by
  have hbk := pw_bd k.toNat (by omega)
  have hbw := pw_bd wd.toNat (by omega)
  have hm0 := Int.emod_nonneg (r - p) (show pw wd.toNat ≠ 0 by omega)
  have hm1 := Int.emod_lt_of_pos (r - p) (show 0 < pw wd.toNat by omega)
  have hq0 := Int.emod_nonneg ((r - p) % pw wd.toNat) (show pw k.toNat ≠ 0 by omega)
  have hq1 := Int.emod_lt_of_pos ((r - p) % pw wd.toNat) (show 0 < pw k.toNat by omega)
  have H := hide (low_ref wd k r p b h0 h1 hb hb' _ rfl)
  by_cases h : (r - p) % pw wd.toNat - (r - p) % pw wd.toNat % pw k.toNat + b < (r - p) % pw wd.toNat
  · have e := hide ((unhide H).1 h)
    go_enter Tryz.func98, Tryz.ntmps98
    go_wp2_with (first | (go_at_call 109; refine (two_any _ _ h0 (by omega)).mono ?_; rintro e w' ⟨rfl, rfl⟩) | (go_at_call 82; refine (mod_any _ _ _ (by omega) h2 (by omega) (by omega)).mono ?_; rintro e w' ⟨rfl, rfl⟩))
    go_ret
    exact ⟨ret_int (unhide e), rfl⟩
  · have e := hide ((unhide H).2 h)
    go_enter Tryz.func98, Tryz.ntmps98
    go_wp2_with (first | (go_at_call 109; refine (two_any _ _ h0 (by omega)).mono ?_; rintro e w' ⟨rfl, rfl⟩) | (go_at_call 82; refine (mod_any _ _ _ (by omega) h2 (by omega) (by omega)).mono ?_; rintro e w' ⟨rfl, rfl⟩))
    go_ret
    exact ⟨ret_int (unhide e), rfl⟩

end Go.Proofs.YtgpojbgjfibblaaGreat.bits
