/-
  Plain arithmetic of checks and sums: bit by bit as shifts and as rows of bits; the sum with its carries at once and at the end. Plain arithmetic of low bits: the number that k bits tell, as the document's answer and as the program reckon it. The walks of the program's and the document's calls on low bits: what each returns, at which arguments. The walks of the program's Low32, Fits16, Fits32 and of the package gist's calls of them. The walks of the document's answer on low bits (package gistref): two, mod, Low, LowOf, Fits, FitsOf. The walks of the document's LowOf, Fits and FitsOf (package gistref): they answer as the program's calls do. Small facts for the statements on low bits: bounds, and what num gives. The walks of the program's checks and sums (packages check and gist). The walk of the document's Sum (package gistref). The walk of the document's bits (package gistref): the bits of a text, in new memory. Rows of bits in memory: what each step of the document's check does to them. The walk of the document's Check (package gistref): a row of bits, pushed on bit by bit.
  Conditions stand in each theorem.
-/
import Derived.Laws.BitsAllLaws
import Derived.Test.YtgpojbgjfibblabGreatProg
import Derived.WalkKit
import Derived.WalkSpells
import Derived.WalkLawsBesides
import Derived.Deep.QuietTactic
import Derived.BigQuiet
namespace Go.Proofs.YtgpojbgjfibblabGreat.plain
set_option linter.unusedVariables false

/-- one bit of a text goes into a check -/
def stepB (mix c : Nat) (b : Bool) : Nat := (c / 2) ^^^ (if (c % 2 == 1) != b then mix else 0)
def crcB (mix c : Nat) (l : List Bool) : Nat := l.foldl (stepB mix) c
/-- the bits of a byte, the lowest first -/
def byteBits (x : Nat) : List Bool := (List.range 8).map fun j => x / 2 ^ j % 2 == 1
def bitsOf (l : List UInt8) : List Bool := l.flatMap fun b => byteBits b.toNat

theorem byteBits_length (x : Nat) : (byteBits x).length = 8 := by simp [byteBits]
theorem byteBits_take (x j : Nat) (h : j < 8) : (byteBits x).take (j + 1) = (byteBits x).take j ++ [x / 2 ^ j % 2 == 1] := by
  rw [List.take_succ_eq_append_getElem (by simp [byteBits]; omega)]
  simp [byteBits]
theorem crcB_snoc (mix c : Nat) (l : List Bool) (b : Bool) : crcB mix c (l ++ [b]) = stepB mix (crcB mix c l) b := by
  simp [crcB, List.foldl_append]
theorem crcB_append (mix c : Nat) (l m : List Bool) : crcB mix c (l ++ m) = crcB mix (crcB mix c l) m := by
  simp [crcB, List.foldl_append]
theorem crcB_nil (mix c : Nat) : crcB mix c [] = c := rfl

theorem stepB_lt (n mix c : Nat) (b : Bool) (hm : mix < 2 ^ n) (hc : c < 2 ^ n) : stepB mix c b < 2 ^ n := by
  unfold stepB
  refine Nat.xor_lt_two_pow (by omega) ?_
  split
  · exact hm
  · exact Nat.two_pow_pos n
theorem crcB_lt (n mix c : Nat) (l : List Bool) (hm : mix < 2 ^ n) (hc : c < 2 ^ n) : crcB mix c l < 2 ^ n := by
  induction l generalizing c with
  | nil => exact hc
  | cons b l ih => exact ih _ (stepB_lt n mix c b hm hc)

theorem bitsOf_nil : bitsOf [] = [] := rfl
theorem bitsOf_snoc (l : List UInt8) (b : UInt8) : bitsOf (l ++ [b]) = bitsOf l ++ byteBits b.toNat := by
  simp [bitsOf]
theorem bitsOf_length (l : List UInt8) : (bitsOf l).length = 8 * l.length := by
  induction l with
  | nil => rfl
  | cons b l ih => 
    have e : bitsOf (b :: l) = byteBits b.toNat ++ bitsOf l := by simp [bitsOf]
    rw [e, List.length_append, byteBits_length, ih, List.length_cons]; omega

/-- the low bit that goes out -/
theorem low_xor (c x : Nat) : (c ^^^ x) % 2 = 1 ↔ ((c % 2 == 1) != (x % 2 == 1)) = true := by
  have e := Nat.testBit_xor (x := c) (y := x) (i := 0)
  simp only [Nat.testBit_zero] at e
  rcases Nat.mod_two_eq_zero_or_one c with h | h <;> rcases Nat.mod_two_eq_zero_or_one x with g | g <;> simp [h, g] at e ⊢ <;> omega

theorem stepB_yes (mix c x : Nat) (h : (c ^^^ x) % 2 = 1) : stepB mix c (x % 2 == 1) = (c / 2) ^^^ mix := by
  unfold stepB; rw [if_pos ((low_xor c x).1 h)]
theorem stepB_no (mix c x : Nat) (h : ¬ (c ^^^ x) % 2 = 1) : stepB mix c (x % 2 == 1) = c / 2 := by
  unfold stepB; rw [if_neg (mt (low_xor c x).2 h)]; simp

/-- the bits of a check behind one step -/
theorem stepB_testBit (mix c k : Nat) (b : Bool) : (stepB mix c b).testBit k = (c.testBit (k + 1) != ((c.testBit 0 != b) && mix.testBit k)) := by
  unfold stepB
  rw [Nat.testBit_xor, Nat.testBit_div_two]
  have e : c.testBit 0 = (c % 2 == 1) := by simp [Nat.testBit_zero]; rcases Nat.mod_two_eq_zero_or_one c with h | h <;> simp [h]
  rw [e]
  by_cases h : ((c % 2 == 1) != b) = true
  · rw [if_pos h, h]; cases c.testBit (k + 1) <;> cases mix.testBit k <;> rfl
  · rw [if_neg h]
    have h' : ((c % 2 == 1) != b) = false := by simpa using h
    rw [h']; cases c.testBit (k + 1) <;> simp

/-- the number of a row of bits, from the top on -/
theorem top_step (c k : Nat) : 2 * (c / 2 ^ (k + 1)) + (if c.testBit k then 1 else 0) = c / 2 ^ k := by
  have e : c / 2 ^ (k + 1) = c / 2 ^ k / 2 := by rw [Nat.pow_succ, Nat.div_div_eq_div_mul]
  rw [e, Nat.testBit_eq_decide_div_mod_eq]
  generalize c / 2 ^ k = q
  by_cases h : q % 2 = 1 <;> simp [h] <;> omega

/-- the sum, with all carries put back -/
def fold16 (n : Nat) : Nat := if n = 0 then 0 else (n - 1) % 65535 + 1
theorem fold16_id (n : Nat) (h : n ≤ 65535) : fold16 n = n := by unfold fold16; split <;> omega
theorem fold16_carry (n : Nat) : fold16 (n % 65536 + n / 65536) = fold16 n := by
  unfold fold16
  by_cases h : n = 0
  · subst h; rfl
  · rw [if_neg (by omega), if_neg h]; omega
theorem fold16_le (n : Nat) : fold16 n ≤ 65535 := by unfold fold16; split <;> omega
theorem fold16_add (n d : Nat) : fold16 (fold16 n + d) = fold16 (n + d) := by
  unfold fold16
  by_cases h : n = 0
  · subst h; simp
  · rw [if_neg h, if_neg (by omega), if_neg (by omega)]; omega

/-- what the first k bytes of a text add up to -/
def psum (l : List UInt8) : Nat → Nat
  | 0 => 0
  | k + 1 => psum l k + (if k % 2 = 0 then 256 else 1) * (l[k]?.getD 0).toNat
theorem psum_le (l : List UInt8) (k : Nat) : psum l k ≤ 65280 * k := by
  induction k with
  | zero => simp [psum]
  | succ k ih =>
    have h := (l[k]?.getD 0).toNat_lt
    simp only [psum]
    split <;> omega
theorem psum_even (l : List UInt8) (k : Nat) (h : k % 2 = 0) : psum l (k + 1) = psum l k + 256 * (l[k]?.getD 0).toNat := by
  simp [psum, h]
theorem psum_odd (l : List UInt8) (k : Nat) (h : k % 2 = 1) : psum l (k + 1) = psum l k + (l[k]?.getD 0).toNat := by
  simp [psum, h]
theorem psum_past (l : List UInt8) (k : Nat) (h : l.length ≤ k) : psum l (k + 1) = psum l k := by
  simp [psum, List.getElem?_eq_none h]

/-- the sum of a text, as the document has it -/
def sumOf (l : List UInt8) : Nat := 65535 - fold16 (psum l l.length)

/-- the program's step: the carry goes back at once -/
theorem carry_step (t d : Nat) (ht : t ≤ 65535) (hd : d ≤ 65280) : (t + d) % 65536 + (t + d) / 65536 = fold16 (t + d) := by
  rw [← fold16_carry, fold16_id]
  omega

/-- where a check begins, what is mixed in -/
def startOf (wd : Nat) : Nat := 2 ^ wd - 1
def mixOf (wd : Nat) : Nat := if wd = 3 then 6 else if wd = 7 then 121 else 224
/-- the check of a text -/
def checkOf (wd : Nat) (l : List UInt8) : Nat := crcB (mixOf wd) (startOf wd) (bitsOf l)

end Go.Proofs.YtgpojbgjfibblabGreat.plain

namespace Go.Proofs.YtgpojbgjfibblabGreat.plain
set_option linter.unusedVariables false

/-- the number of width w that k low bits tell -/
def lowV (wd k : Nat) (r p b : Int) : Int := (r - p + (b - (r - p)) % 2 ^ k) % 2 ^ wd

theorem two_pos (k : Nat) : (0 : Int) < 2 ^ k := Int.pow_pos (by decide)

theorem two_dvd {k n : Nat} (h : k ≤ n) : (2 ^ k : Int) ∣ 2 ^ n := by
  obtain ⟨d, rfl⟩ := Nat.exists_eq_add_of_le h
  exact ⟨2 ^ d, by rw [Int.pow_add]⟩

theorem two_le {k n : Nat} (h : k ≤ n) : (2 ^ k : Int) ≤ 2 ^ n :=
  Int.le_of_dvd (two_pos n) (two_dvd h)

theorem emod_emod_two {k n : Nat} (h : k ≤ n) (x : Int) : x % 2 ^ n % 2 ^ k = x % 2 ^ k :=
  Int.emod_emod_of_dvd x (two_dvd h)

/-- the document's answer is that number -/
theorem low_ref (wd k : Nat) (r p b : Int) (hk : k ≤ wd) (hb0 : 0 ≤ b) (hb1 : b < 2 ^ k) :
    (let f := (r - p) % 2 ^ wd
     let v := f - f % 2 ^ k + b
     (if v < f then v + 2 ^ k else v) % 2 ^ wd) = lowV wd k r p b := by
  simp only [lowV]
  have hf : (r - p) % 2 ^ wd % 2 ^ k = (r - p) % 2 ^ k := emod_emod_two hk _
  have h2 := two_pos k
  have hm0 := Int.emod_nonneg (r - p) (Int.ne_of_gt h2)
  have hm1 := Int.emod_lt_of_pos (r - p) h2
  have hd : (r - p + (b - (r - p)) % 2 ^ k) % 2 ^ wd = ((r - p) % 2 ^ wd + (b - (r - p)) % 2 ^ k) % 2 ^ wd := by
    rw [Int.emod_add_emod]
  have hs : (b - (r - p)) % 2 ^ k = (b - (r - p) % 2 ^ k) % 2 ^ k := by
    rw [Int.sub_emod_emod]
  rw [hd, hs, hf]
  generalize (r - p) % 2 ^ k = m at *
  generalize (r - p) % 2 ^ wd = f at *
  generalize (2 : Int) ^ k = c at *
  by_cases h : b < m
  · have e : (b - m) % c = b - m + c := by
      rw [← Int.add_emod_right, Int.emod_eq_of_lt (by omega) (by omega)]
    rw [e, if_pos (by omega)]
    congr 1; omega
  · have e : (b - m) % c = b - m := Int.emod_eq_of_lt (by omega) (by omega)
    rw [e, if_neg (by omega)]
    congr 1; omega

theorem lowV_nonneg (wd k : Nat) (r p b : Int) : 0 ≤ lowV wd k r p b := Int.emod_nonneg _ (Int.ne_of_gt (two_pos wd))
theorem lowV_lt (wd k : Nat) (r p b : Int) : lowV wd k r p b < 2 ^ wd := Int.emod_lt_of_pos _ (two_pos wd)

/-- the program's way, in 64 bits -/
theorem low_go (wd k : Nat) (r p b : Int) (hk : k ≤ wd) (hw : wd ≤ 64) :
    (let f := (r - p) % 2 ^ 64
     ((f + (b - f) % 2 ^ 64 % 2 ^ k) % 2 ^ 64) % 2 ^ wd) = lowV wd k r p b := by
  simp only [lowV]
  rw [emod_emod_two hw, emod_emod_two (show k ≤ 64 by omega)]
  have hs : (b - (r - p) % 2 ^ 64) % 2 ^ k = (b - (r - p)) % 2 ^ k := by
    rw [← Int.sub_emod_emod, emod_emod_two (show k ≤ 64 by omega), Int.sub_emod_emod]
  rw [hs, ← Int.emod_add_emod, emod_emod_two hw, Int.emod_add_emod]

/-- a number is one that k bits tell just if the way to it is below 2 to the power k -/
theorem fits_iff (wd k : Nat) (r p v : Int) (hk : k ≤ wd) (hv0 : 0 ≤ v) (hv1 : v < 2 ^ wd) :
    lowV wd k r p (v % 2 ^ k) = v ↔ (v - (r - p)) % 2 ^ wd < 2 ^ k := by
  have hkp := two_pos k
  have hwp := two_pos wd
  have e : (v % 2 ^ k - (r - p)) % 2 ^ k = (v - (r - p)) % 2 ^ k := Int.emod_sub_emod _ _ _
  have hle := two_le hk
  have hb := Int.emod_lt_of_pos (v - (r - p)) hkp
  have hb0 := Int.emod_nonneg (v - (r - p)) (Int.ne_of_gt hkp)
  unfold lowV
  rw [e]
  constructor
  · intro h
    have h1 : (v - (r - p)) % 2 ^ wd = (v - (r - p)) % 2 ^ k % 2 ^ wd := by
      conv => lhs; rw [← h]
      rw [Int.emod_sub_emod]
      congr 1; omega
    rw [h1, Int.emod_eq_of_lt hb0 (by omega)]
    exact hb
  · intro h
    have h1 : (v - (r - p)) % 2 ^ k = (v - (r - p)) % 2 ^ wd := by
      rw [← emod_emod_two hk, Int.emod_eq_of_lt (Int.emod_nonneg _ (Int.ne_of_gt hwp)) h]
    rw [h1, Int.add_emod_emod]
    rw [show r - p + (v - (r - p)) = v by omega]
    exact Int.emod_eq_of_lt hv0 hv1

end Go.Proofs.YtgpojbgjfibblabGreat.plain

namespace Go.Proofs.YtgpojbgjfibblabGreat.bits
open Go.RowKit
set_option linter.unusedVariables false

theorem hide {p : Prop} (h : p) : Hid p := h
theorem unhide {p : Prop} (h : Hid p) : p := h
theorem ret_int {k : IntKind} {a b : Int} (h : a = b) : Ending.returned (.int k a) = .returned (.int k b) := by rw [h]
theorem ret_two {k j : IntKind} {a b c d : Int} (h : a = b) (g : c = d) : Ending.returned (.tuple #[.int k a, .int j c]) = .returned (.tuple #[.int k b, .int j d]) := by rw [h, g]

/-- how many numbers k bits tell, nought where k may not be -/
def cnt (k wd : Int) : Int := if k < 0 ∨ wd < k then 0 else 2 ^ k.toNat

theorem cnt_good {k wd : Int} (h0 : 0 ≤ k) (h1 : k ≤ wd) : cnt k wd = 2 ^ k.toNat := by
  unfold cnt; rw [if_neg (by omega)]
theorem cnt_bad {k wd : Int} (h : k < 0 ∨ wd < k) : cnt k wd = 0 := by
  unfold cnt; rw [if_pos h]
theorem cnt_bd (k wd : Int) (hw : wd ≤ 32) : 0 ≤ cnt k wd ∧ cnt k wd ≤ 4294967296 := by
  unfold cnt
  split
  · omega
  · have h1 := plain.two_pos k.toNat
    have h2 := plain.two_le (show k.toNat ≤ 32 by omega)
    have h3 : (2 : Int) ^ 32 = 4294967296 := by decide
    omega

theorem wrap_two (k : Int) (h2 : k ≤ 32) : IntKind.u64.wrap (2 ^ k.toNat) = 2 ^ k.toNat := by
  have h1 := plain.two_pos k.toNat
  have h3 := plain.two_le (show k.toNat ≤ 32 by omega)
  have h4 : (2 : Int) ^ 32 = 4294967296 := by decide
  rw [IntKind.wrap_u64]
  exact Int.emod_eq_of_lt (by omega) (by omega)

set_option maxHeartbeats 400000 in
theorem count_any (k wd : Int) (w : World) (h2 : wd ≤ 32) :
    Calls Tryz.prog 145 #[.int .i64 k, .int .i64 wd] w fun e w' => e = .returned (.int .u64 (cnt k wd)) ∧ w' = w := by
  by_cases h : k < 0 ∨ wd < k
  · have hc : Hid (cnt k wd = 0) := cnt_bad h
    rcases h with h | h
    all_goals
      go_enter Tryz.func145, Tryz.ntmps145
      go_wp2
      all_goals go_ret
      all_goals exact ⟨ret_int hc.out.symm, rfl⟩
  · have h0 : 0 ≤ k := by omega
    have h1 : k ≤ wd := by omega
    have hc : Hid (cnt k wd = 2 ^ k.toNat) := cnt_good h0 h1
    go_enter Tryz.func145, Tryz.ntmps145
    go_wp2
    go_ret
    exact ⟨ret_int (by rw [hc.out]; exact wrap_two k (by omega)), rfl⟩

/-- what the program's low reckons in 64 bits -/
def glow (c r p b : Int) : Int :=
  IntKind.u64.wrap (IntKind.u64.wrap (r - p) + bits BinOp.and IntKind.u64 (IntKind.u64.wrap (b - IntKind.u64.wrap (r - p))) (IntKind.u64.wrap (c - 1)))

theorem and_mask (x : Int) (k : Nat) (hk : k ≤ 32) : bits BinOp.and IntKind.u64 (IntKind.u64.wrap x) (IntKind.u64.wrap (2 ^ k - 1)) = x % 2 ^ 64 % 2 ^ k := by
  have h1 := plain.two_pos k
  have h2 := plain.two_le hk
  have h3 : (2 : Int) ^ 32 = 4294967296 := by decide
  have h5 : (2 : Int) ^ 64 = 18446744073709551616 := by decide
  have h4 : IntKind.u64.wrap (2 ^ k - 1) = 2 ^ k - 1 := by
    rw [IntKind.wrap_u64]; exact Int.emod_eq_of_lt (by omega) (by omega)
  rw [h4, IntKind.wrap_u64, h5]
  have hx0 : 0 ≤ x % 18446744073709551616 := by omega
  have hx1 : x % 18446744073709551616 < 18446744073709551616 := by omega
  generalize x % 18446744073709551616 = y at *
  obtain ⟨n, rfl⟩ := Int.eq_ofNat_of_zero_le hx0
  have h6 : ((2 : Int) ^ k - 1) = ((2 ^ k - 1 : Nat) : Int) := by
    have := Nat.two_pow_pos k
    rw [Int.ofNat_sub (by omega)]; simp
  rw [h6, u64_and_nat _ _ (by omega) (by have := h6; omega), Nat.and_two_pow_sub_one_eq_mod]
  simp

theorem glow_eq (wd k : Nat) (r p b : Int) (hk : k ≤ wd) (hw : wd ≤ 32) : glow (2 ^ k) r p b % 2 ^ wd = plain.lowV wd k r p b := by
  unfold glow
  rw [and_mask _ _ (by omega)]
  rw [IntKind.wrap_u64, IntKind.wrap_u64]
  exact plain.low_go wd k r p b hk (by omega)

/-- may k, p and b be? -/
def may (wd k p b : Int) : Prop := p < cnt k wd ∧ b < cnt k wd
theorem may_k {wd k p b : Int} (h : may wd k p b) (hp : 0 ≤ p) : 0 ≤ k ∧ k ≤ wd ∧ p < 2 ^ k.toNat ∧ b < 2 ^ k.toNat := by
  obtain ⟨h1, h2⟩ := h
  unfold cnt at h1 h2
  split at h1
  · omega
  · rename_i h3
    rw [if_neg h3] at h2
    exact ⟨by omega, by omega, h1, h2⟩

/-- what Low16 and Low32 answer -/
def lowR (wd k r p b : Int) : Int := if p < cnt k wd ∧ b < cnt k wd then plain.lowV wd.toNat k.toNat r p b else 0
def lowE (wd k p b : Int) : Int := if p < cnt k wd ∧ b < cnt k wd then 0 else 1
/-- what Fits16 and Fits32 answer -/
def fitR (wd v r k p : Int) : Bool := decide (p < cnt k wd ∧ (v - (r - p)) % 2 ^ wd.toNat < cnt k wd)
def fitE (wd k p : Int) : Int := if p < cnt k wd then 0 else 1

theorem lowR_bd (wd k r p b : Int) : 0 ≤ lowR wd k r p b ∧ lowR wd k r p b < 2 ^ wd.toNat := by
  unfold lowR
  have h := plain.two_pos wd.toNat
  split
  · exact ⟨plain.lowV_nonneg _ _ _ _ _, plain.lowV_lt _ _ _ _ _⟩
  · omega

set_option maxHeartbeats 400000 in
theorem low_bad (wd r k p b : Int) (w : World) (h2 : wd ≤ 32) (h : cnt k wd ≤ p ∨ cnt k wd ≤ b) :
    Calls Tryz.prog 139 #[.int .i64 wd, .int .u64 r, .int .i64 k, .int .u64 p, .int .u64 b] w fun e w' => e = .returned (.tuple #[.int .u64 0, .int .i64 1]) ∧ w' = w := by
  by_cases hp : cnt k wd ≤ p
  all_goals
    go_enter Tryz.func139, Tryz.ntmps139
    go_wp2_with (go_at_call 145; refine (count_any _ _ _ h2).mono ?_; rintro e w' ⟨rfl, rfl⟩)
    go_ret2
    exact ⟨rfl, rfl⟩

set_option maxHeartbeats 400000 in
theorem low_good (wd r k p b : Int) (w : World) (h2 : wd ≤ 32) (hp : p < cnt k wd) (hb : b < cnt k wd) :
    Calls Tryz.prog 139 #[.int .i64 wd, .int .u64 r, .int .i64 k, .int .u64 p, .int .u64 b] w fun e w' => e = .returned (.tuple #[.int .u64 (glow (cnt k wd) r p b), .int .i64 0]) ∧ w' = w := by
  have hc := cnt_bd k wd h2
  go_enter Tryz.func139, Tryz.ntmps139
  go_wp2_with (go_at_call 145; refine (count_any _ _ _ h2).mono ?_; rintro e w' ⟨rfl, rfl⟩)
  go_ret2
  exact ⟨rfl, rfl⟩

theorem glow_lowR (wd k r p b : Int) (h0 : 0 ≤ p) (hw0 : 0 ≤ wd) (hw : wd ≤ 32) (hp : p < cnt k wd) (hb : b < cnt k wd) :
    glow (cnt k wd) r p b % 2 ^ wd.toNat = lowR wd k r p b := by
  have hm := may_k ⟨hp, hb⟩ h0
  unfold lowR
  rw [if_pos ⟨hp, hb⟩, cnt_good hm.1 hm.2.1]
  exact glow_eq _ _ _ _ _ (by omega) (by omega)

theorem lowE_good {wd k p b : Int} (hp : p < cnt k wd) (hb : b < cnt k wd) : lowE wd k p b = 0 := by
  unfold lowE; rw [if_pos ⟨hp, hb⟩]
theorem lowE_bad {wd k p b : Int} (h : cnt k wd ≤ p ∨ cnt k wd ≤ b) : lowE wd k p b = 1 := by
  unfold lowE; rw [if_neg (by omega)]
theorem lowR_bad {wd k r p b : Int} (h : cnt k wd ≤ p ∨ cnt k wd ≤ b) : lowR wd k r p b = 0 := by
  unfold lowR; rw [if_neg (by omega)]

set_option maxHeartbeats 400000 in
theorem low16_in (r k p b : Int) (w : World) (hr : 0 ≤ r) (hr' : r ≤ 65535) (hp : 0 ≤ p) (hp' : p ≤ 65535) (hb : 0 ≤ b) (hb' : b ≤ 65535) :
    Calls Tryz.prog 129 #[.int .u16 r, .int .i64 k, .int .u16 p, .int .u16 b] w fun e w' => e = .returned (.tuple #[.int .u16 (lowR 16 k r p b), .int .i64 (lowE 16 k p b)]) ∧ w' = w := by
  by_cases h : cnt k 16 ≤ p ∨ cnt k 16 ≤ b
  · have e1 : Hid (lowR 16 k r p b = 0) := lowR_bad h
    have e2 : Hid (lowE 16 k p b = 1) := lowE_bad h
    go_enter Tryz.func129, Tryz.ntmps129
    go_wp2_with (go_at_call 139; refine (low_bad _ _ _ _ _ _ (by decide) h).mono ?_; rintro e w' ⟨rfl, rfl⟩)
    go_ret2
    exact ⟨ret_two e1.out.symm e2.out.symm, rfl⟩
  · have h1 : p < cnt k 16 := by omega
    have h3 : b < cnt k 16 := by omega
    have e1 : Hid (glow (cnt k 16) r p b % 2 ^ 16 = lowR 16 k r p b) := glow_lowR 16 k r p b hp (by decide) (by decide) h1 h3
    have e2 : Hid (lowE 16 k p b = 0) := lowE_good h1 h3
    go_enter Tryz.func129, Tryz.ntmps129
    go_wp2_with (go_at_call 139; refine (low_good _ _ _ _ _ _ (by decide) h1 h3).mono ?_; rintro e w' ⟨rfl, rfl⟩)
    go_ret2
    exact ⟨ret_two (by rw [← e1.out]; rfl) e2.out.symm, rfl⟩

end Go.Proofs.YtgpojbgjfibblabGreat.bits

namespace Go.Proofs.YtgpojbgjfibblabGreat.bits
open Go.RowKit
set_option linter.unusedVariables false

theorem ret_bi {j : IntKind} {a b : Bool} {c d : Int} (h : a = b) (g : c = d) : Ending.returned (.tuple #[.bool a, .int j c]) = .returned (.tuple #[.bool b, .int j d]) := by rw [h, g]

set_option maxHeartbeats 400000 in
theorem low32_in (r k p b : Int) (w : World) (hr : 0 ≤ r) (hr' : r ≤ 4294967295) (hp : 0 ≤ p) (hp' : p ≤ 4294967295) (hb : 0 ≤ b) (hb' : b ≤ 4294967295) :
    Calls Tryz.prog 130 #[.int .u32 r, .int .i64 k, .int .u32 p, .int .u32 b] w fun e w' => e = .returned (.tuple #[.int .u32 (lowR 32 k r p b), .int .i64 (lowE 32 k p b)]) ∧ w' = w := by
  by_cases h : cnt k 32 ≤ p ∨ cnt k 32 ≤ b
  · have e1 : Hid (lowR 32 k r p b = 0) := lowR_bad h
    have e2 : Hid (lowE 32 k p b = 1) := lowE_bad h
    go_enter Tryz.func130, Tryz.ntmps130
    go_wp2_with (go_at_call 139; refine (low_bad _ _ _ _ _ _ (by decide) h).mono ?_; rintro e w' ⟨rfl, rfl⟩)
    go_ret2
    exact ⟨ret_two e1.out.symm e2.out.symm, rfl⟩
  · have h1 : p < cnt k 32 := by omega
    have h3 : b < cnt k 32 := by omega
    have e1 : Hid (glow (cnt k 32) r p b % 2 ^ 32 = lowR 32 k r p b) := glow_lowR 32 k r p b hp (by decide) (by decide) h1 h3
    have e2 : Hid (lowE 32 k p b = 0) := lowE_good h1 h3
    go_enter Tryz.func130, Tryz.ntmps130
    go_wp2_with (go_at_call 139; refine (low_good _ _ _ _ _ _ (by decide) h1 h3).mono ?_; rintro e w' ⟨rfl, rfl⟩)
    go_ret2
    exact ⟨ret_two (by rw [← e1.out]; rfl) e2.out.symm, rfl⟩

theorem ahead_eq (wd : Nat) (v r p : Int) (hw : wd ≤ 32) :
    bits BinOp.and IntKind.u64 (IntKind.u64.wrap (v - IntKind.u64.wrap (r - p))) (IntKind.u64.wrap (2 ^ wd - 1)) = (v - (r - p)) % 2 ^ wd := by
  rw [and_mask _ _ hw, plain.emod_emod_two (show wd ≤ 64 by omega), IntKind.wrap_u64]
  have e : (18446744073709551616 : Int) = 2 ^ 64 := by decide
  rw [e, ← Int.sub_emod_emod, plain.emod_emod_two (show wd ≤ 64 by omega), Int.sub_emod_emod]

theorem fitR_good {wd v r k p : Int} (hp : p < cnt k wd) : fitR wd v r k p = decide ((v - (r - p)) % 2 ^ wd.toNat < cnt k wd) := by
  unfold fitR; simp [hp]
theorem fitR_bad {wd v r k p : Int} (hp : cnt k wd ≤ p) : fitR wd v r k p = false := by
  unfold fitR; simp; omega
theorem fitE_good {wd k p : Int} (hp : p < cnt k wd) : fitE wd k p = 0 := by unfold fitE; rw [if_pos hp]
theorem fitE_bad {wd k p : Int} (hp : cnt k wd ≤ p) : fitE wd k p = 1 := by unfold fitE; rw [if_neg (by omega)]

set_option maxHeartbeats 400000 in
theorem fits_any (wd v r k p : Int) (w : World) (h0 : 0 ≤ wd) (h2 : wd ≤ 32) :
    Calls Tryz.prog 146 #[.int .i64 wd, .int .u64 v, .int .u64 r, .int .i64 k, .int .u64 p] w fun e w' => e = .returned (.tuple #[.bool (fitR wd v r k p), .int .i64 (fitE wd k p)]) ∧ w' = w := by
  by_cases hp : cnt k wd ≤ p
  · have e1 : Hid (fitR wd v r k p = false) := fitR_bad hp
    have e2 : Hid (fitE wd k p = 1) := fitE_bad hp
    go_enter Tryz.func146, Tryz.ntmps146
    go_wp2_with (go_at_call 145; refine (count_any _ _ _ h2).mono ?_; rintro e w' ⟨rfl, rfl⟩)
    go_ret2
    exact ⟨ret_bi e1.out.symm e2.out.symm, rfl⟩
  · have hp' : p < cnt k wd := by omega
    have e1 : Hid (fitR wd v r k p = decide ((v - (r - p)) % 2 ^ wd.toNat < cnt k wd)) := fitR_good hp'
    have e2 : Hid (fitE wd k p = 0) := fitE_good hp'
    have e3 : Hid (cnt wd wd = 2 ^ wd.toNat) := cnt_good h0 (by omega)
    go_enter Tryz.func146, Tryz.ntmps146
    go_wp2_with (go_at_call 145; refine (count_any _ _ _ h2).mono ?_; rintro e w' ⟨rfl, rfl⟩)
    go_ret2
    refine ⟨ret_bi ?_ e2.out.symm, rfl⟩
    rw [e1.out, e3.out, ahead_eq _ _ _ _ (by omega)]

set_option maxHeartbeats 400000 in
theorem fits16_in (v r k p : Int) (w : World) (hv : 0 ≤ v) (hv' : v ≤ 65535) (hr : 0 ≤ r) (hr' : r ≤ 65535) (hp : 0 ≤ p) (hp' : p ≤ 65535) :
    Calls Tryz.prog 140 #[.int .u16 v, .int .u16 r, .int .i64 k, .int .u16 p] w fun e w' => e = .returned (.tuple #[.bool (fitR 16 v r k p), .int .i64 (fitE 16 k p)]) ∧ w' = w := by
  go_enter Tryz.func140, Tryz.ntmps140
  go_wp2_with (go_at_call 146; refine (fits_any _ _ _ _ _ _ (by decide) (by decide)).mono ?_; rintro e w' ⟨rfl, rfl⟩)
  go_ret2
  exact ⟨rfl, rfl⟩

set_option maxHeartbeats 400000 in
theorem fits32_in (v r k p : Int) (w : World) (hv : 0 ≤ v) (hv' : v ≤ 4294967295) (hr : 0 ≤ r) (hr' : r ≤ 4294967295) (hp : 0 ≤ p) (hp' : p ≤ 4294967295) :
    Calls Tryz.prog 141 #[.int .u32 v, .int .u32 r, .int .i64 k, .int .u32 p] w fun e w' => e = .returned (.tuple #[.bool (fitR 32 v r k p), .int .i64 (fitE 32 k p)]) ∧ w' = w := by
  go_enter Tryz.func141, Tryz.ntmps141
  go_wp2_with (go_at_call 146; refine (fits_any _ _ _ _ _ _ (by decide) (by decide)).mono ?_; rintro e w' ⟨rfl, rfl⟩)
  go_ret2
  exact ⟨rfl, rfl⟩

end Go.Proofs.YtgpojbgjfibblabGreat.bits

namespace Go.Proofs.YtgpojbgjfibblabGreat.bits
open Go.RowKit
set_option linter.unusedVariables false

/-- 2 to the power j -/
def pw (j : Nat) : Int := 2 ^ j
theorem pw_succ (j : Nat) : pw (j + 1) = 2 * pw j := by unfold pw; rw [Int.pow_succ, Int.mul_comm]
theorem pw_bd (j : Nat) (h : j ≤ 32) : 1 ≤ pw j ∧ pw j ≤ 4294967296 := by
  have h1 := plain.two_pos j
  have h2 := plain.two_le h
  have h3 : (2 : Int) ^ 32 = 4294967296 := by decide
  unfold pw; omega

set_option maxHeartbeats 400000 in
theorem two_any (k : Int) (w : World) (h0 : 0 ≤ k) (h1 : k ≤ 32) :
    Calls Tryz.prog 107 #[.int .i64 k] w fun e w' => e = .returned (.int .i64 (pw k.toNat)) ∧ w' = w := by
  obtain ⟨n, rfl⟩ := Int.eq_ofNat_of_zero_le h0
  rw [Int.toNat_natCast]
  go_enter Tryz.func107, Tryz.ntmps107
  go_wp2
  go_loop [3, 4] (fun m i => ∃ j : Nat, j ≤ n ∧ i = .int .i64 j ∧ m = .int .i64 (pw j)) (fun _ i => n - (intOf i).toNat)
  case atStart => exact ⟨0, Nat.zero_le _, rfl, rfl⟩
  case round =>
    obtain ⟨j, hj, rfl, rfl⟩ := hrel
    have hb := pw_bd j (by omega)
    by_cases hlt : j < n
    · have hs : Hid (pw (j + 1) = 2 * pw j) := pw_succ j
      go_wp2
      go_round
      case rel => exact ⟨j + 1, by omega, by go_num, by rw [hs.out]⟩
      case measure => simp [intOf]; omega
    · have e : j = n := by omega
      subst e
      go_wp2
      go_ret
      exact ⟨rfl, rfl⟩

theorem tmod_gt (n c : Int) (hc : 0 < c) : -c < n.tmod c := by
  have := Int.tmod_lt_of_pos (-n) hc
  rw [Int.neg_tmod] at this
  omega
theorem tmod_neg (n c : Int) (hc : 0 < c) (h : n.tmod c < 0) : n.tmod c + c = n % c := by
  have h1 : ¬ 0 ≤ n := by
    intro h0
    have := Int.tmod_nonneg c h0
    omega
  have h2 := Int.tmod_add_mul_tdiv n c
  have h3 : (n.tmod c + c) % c = n % c := by
    conv => rhs; rw [← h2]
    simp
  have h4 : -c < n.tmod c := by
    have := Int.tmod_lt_of_pos (-n) hc
    rw [Int.neg_tmod] at this
    omega
  rw [← h3]
  exact (Int.emod_eq_of_lt (by omega) (by omega)).symm
theorem tmod_pos (n c : Int) (hc : 0 < c) (h : 0 ≤ n.tmod c) : n.tmod c = n % c := by
  have h2 := Int.tmod_add_mul_tdiv n c
  have h3 : (n.tmod c) % c = n % c := by
    conv => rhs; rw [← h2]
    simp
  have h4 : n.tmod c < c := Int.tmod_lt_of_pos n hc
  rw [← h3]
  exact (Int.emod_eq_of_lt (by omega) (by omega)).symm

set_option maxHeartbeats 400000 in
theorem mod_any (n k : Int) (w : World) (h0 : 0 ≤ k) (h1 : k ≤ 32) (hn : -9223372036854775808 ≤ n) (hn' : n ≤ 9223372036854775807) :
    Calls Tryz.prog 78 #[.int .i64 n, .int .i64 k] w fun e w' => e = .returned (.int .i64 (n % pw k.toNat)) ∧ w' = w := by
  have hb := pw_bd k.toNat (by omega)
  by_cases h : n.tmod (pw k.toNat) < 0
  · have e : Hid (n.tmod (pw k.toNat) + pw k.toNat = n % pw k.toNat) := tmod_neg _ _ (by omega) h
    have hg := tmod_gt n (pw k.toNat) (by omega)
    go_enter Tryz.func78, Tryz.ntmps78
    go_wp2_with (go_at_call 107; refine (two_any _ _ h0 h1).mono ?_; rintro e w' ⟨rfl, rfl⟩)
    go_ret
    exact ⟨ret_int e.out, rfl⟩
  · have e : Hid (n.tmod (pw k.toNat) = n % pw k.toNat) := tmod_pos _ _ (by omega) (by omega)
    go_enter Tryz.func78, Tryz.ntmps78
    go_wp2_with (go_at_call 107; refine (two_any _ _ h0 h1).mono ?_; rintro e w' ⟨rfl, rfl⟩)
    go_ret
    exact ⟨ret_int e.out, rfl⟩

/-- the document's low number, from what two and mod give -/
theorem low_ref (wd k r p b : Int) (hk0 : 0 ≤ k) (hk : k ≤ wd) (hb0 : 0 ≤ b) (hb1 : b < pw k.toNat) (v : Int)
    (hv : v = (r - p) % pw wd.toNat - (r - p) % pw wd.toNat % pw k.toNat + b) :
    (v < (r - p) % pw wd.toNat → (v + pw k.toNat) % pw wd.toNat = plain.lowV wd.toNat k.toNat r p b) ∧
    (¬ v < (r - p) % pw wd.toNat → v % pw wd.toNat = plain.lowV wd.toNat k.toNat r p b) := by
  have h := plain.low_ref wd.toNat k.toNat r p b (by omega) hb0 hb1
  simp only at h
  subst hv
  unfold pw at *
  constructor
  · intro hlt; rw [if_pos hlt] at h; exact h
  · intro hlt; rw [if_neg hlt] at h; exact h

set_option maxHeartbeats 1000000 in
theorem rlow_any (wd r k p b : Int) (w : World) (h0 : 0 ≤ k) (h1 : k ≤ wd) (h2 : wd ≤ 32) (hr : 0 ≤ r) (hr' : r ≤ 4294967295) (hp : 0 ≤ p) (hp' : p ≤ 4294967295) (hb : 0 ≤ b) (hb' : b < pw k.toNat) :
    Calls Tryz.prog 96 #[.int .i64 wd, .int .i64 r, .int .i64 k, .int .i64 p, .int .i64 b] w fun e w' => e = .returned (.int .i64 (plain.lowV wd.toNat k.toNat r p b)) ∧ w' = w := by
  have hbk := pw_bd k.toNat (by omega)
  have hbw := pw_bd wd.toNat (by omega)
  have hm0 := Int.emod_nonneg (r - p) (show pw wd.toNat ≠ 0 by omega)
  have hm1 := Int.emod_lt_of_pos (r - p) (show 0 < pw wd.toNat by omega)
  have hq0 := Int.emod_nonneg ((r - p) % pw wd.toNat) (show pw k.toNat ≠ 0 by omega)
  have hq1 := Int.emod_lt_of_pos ((r - p) % pw wd.toNat) (show 0 < pw k.toNat by omega)
  have H := hide (low_ref wd k r p b h0 h1 hb hb' _ rfl)
  by_cases h : (r - p) % pw wd.toNat - (r - p) % pw wd.toNat % pw k.toNat + b < (r - p) % pw wd.toNat
  · have e := hide ((unhide H).1 h)
    go_enter Tryz.func96, Tryz.ntmps96
    go_wp2_with (first | (go_at_call 107; refine (two_any _ _ h0 (by omega)).mono ?_; rintro e w' ⟨rfl, rfl⟩) | (go_at_call 78; refine (mod_any _ _ _ (by omega) h2 (by omega) (by omega)).mono ?_; rintro e w' ⟨rfl, rfl⟩))
    go_ret
    exact ⟨ret_int (unhide e), rfl⟩
  · have e := hide ((unhide H).2 h)
    go_enter Tryz.func96, Tryz.ntmps96
    go_wp2_with (first | (go_at_call 107; refine (two_any _ _ h0 (by omega)).mono ?_; rintro e w' ⟨rfl, rfl⟩) | (go_at_call 78; refine (mod_any _ _ _ (by omega) h2 (by omega) (by omega)).mono ?_; rintro e w' ⟨rfl, rfl⟩))
    go_ret
    exact ⟨ret_int (unhide e), rfl⟩

end Go.Proofs.YtgpojbgjfibblabGreat.bits

namespace Go.Proofs.YtgpojbgjfibblabGreat.bits
open Go.RowKit
set_option linter.unusedVariables false

theorem ret_bool {a b : Bool} (h : a = b) : Ending.returned (.bool a) = .returned (.bool b) := by rw [h]

theorem cnt_pw {k wd : Int} (h0 : 0 ≤ k) (h1 : k ≤ wd) : cnt k wd = pw k.toNat := cnt_good h0 h1
theorem lowR_good {wd k r p b : Int} (hp : p < cnt k wd) (hb : b < cnt k wd) : lowR wd k r p b = plain.lowV wd.toNat k.toNat r p b := by
  unfold lowR; rw [if_pos ⟨hp, hb⟩]

/-- is v what its own lowest bits tell? -/
def fitB (wd v r k p : Int) : Bool := plain.lowV wd.toNat k.toNat r p (v % pw k.toNat) == v

theorem fitB_eq {wd v r k p : Int} (hk0 : 0 ≤ k) (hk : k ≤ wd) (hv0 : 0 ≤ v) (hv1 : v < pw wd.toNat) (hp : p < cnt k wd) : fitR wd v r k p = fitB wd v r k p := by
  have h := plain.fits_iff wd.toNat k.toNat r p v (by omega) hv0 hv1
  rw [fitR_good hp, cnt_good hk0 hk]
  unfold fitB pw
  by_cases h1 : plain.lowV wd.toNat k.toNat r p (v % 2 ^ k.toNat) = v
  · rw [beq_iff_eq.2 h1]; simp; exact h.1 h1
  · rw [beq_eq_false_iff_ne.2 h1]; simp
    have := mt h.2 h1
    omega

set_option maxHeartbeats 1000000 in
theorem rfits_any (wd v r k p : Int) (w : World) (h0 : 0 ≤ k) (h1 : k ≤ wd) (h2 : wd ≤ 32) (hv : 0 ≤ v) (hv' : v ≤ 4294967295) (hr : 0 ≤ r) (hr' : r ≤ 4294967295) (hp : 0 ≤ p) (hp' : p ≤ 4294967295) :
    Calls Tryz.prog 108 #[.int .i64 wd, .int .i64 v, .int .i64 r, .int .i64 k, .int .i64 p] w fun e w' => e = .returned (.bool (fitB wd v r k p)) ∧ w' = w := by
  have hbk := pw_bd k.toNat (by omega)
  have hq0 := Int.emod_nonneg v (show pw k.toNat ≠ 0 by omega)
  have hq1 := Int.emod_lt_of_pos v (show 0 < pw k.toNat by omega)
  go_enter Tryz.func108, Tryz.ntmps108
  go_wp2_with (first | (go_at_call 107; refine (two_any _ _ h0 (by omega)).mono ?_; rintro e w' ⟨rfl, rfl⟩) | (go_at_call 96; refine (rlow_any _ _ _ _ _ _ h0 h1 h2 hr hr' hp hp' hq0 hq1).mono ?_; rintro e w' ⟨rfl, rfl⟩))
  go_ret
  exact ⟨rfl, rfl⟩

end Go.Proofs.YtgpojbgjfibblabGreat.bits

namespace Go.Proofs.YtgpojbgjfibblabGreat.bits
open Go.RowKit
set_option linter.unusedVariables false

theorem wrap16_bd (a : Int) : 0 ≤ IntKind.u16.wrap a ∧ IntKind.u16.wrap a ≤ 65535 := by
  rw [IntKind.wrap_u16]; omega
theorem lowR16_bd (k r p b : Int) : 0 ≤ lowR 16 k r p b ∧ lowR 16 k r p b ≤ 65535 := by
  have h := lowR_bd 16 k r p b
  have e : (2 : Int) ^ (16 : Int).toNat = 65536 := by decide
  omega
theorem lowR32_bd (k r p b : Int) : 0 ≤ lowR 32 k r p b ∧ lowR 32 k r p b ≤ 4294967295 := by
  have h := lowR_bd 32 k r p b
  have e : (2 : Int) ^ (32 : Int).toNat = 4294967296 := by decide
  omega
theorem pw16 : 65536 ≤ pw 16 := by decide
theorem pw32 : 4294967296 ≤ pw 32 := by decide

set_option maxHeartbeats 400000 in
theorem num_any (a : Int) (w : World) :
    Calls Tryz.prog 13 #[.int .i64 a] w fun e w' => e = .returned (.int .i64 a) ∧ w' = w := by
  go_enter Tryz.func13, Tryz.ntmps13
  go_wp2
  go_ret
  exact ⟨rfl, rfl⟩

end Go.Proofs.YtgpojbgjfibblabGreat.bits

namespace Go.Proofs.YtgpojbgjfibblabGreat.bits
open Go.RowKit
set_option linter.unusedVariables false

theorem take_snoc (s : ByteArray) (k : Nat) (h : k < s.size) : s.data.toList.take (k + 1) = s.data.toList.take k ++ [s[k]] := by
  rw [List.take_succ_eq_append_getElem (by simpa using h)]; rfl
theorem get_byte (s : ByteArray) (k : Nat) (h : k < s.size) : s.data.toList[k]?.getD 0 = s[k] := by
  rw [List.getElem?_eq_getElem (by simpa using h)]; rfl

theorem low_bit (c x : Nat) (hc : c < 256) (hx : x < 256) : bits BinOp.and IntKind.u8 (bits BinOp.xor IntKind.u8 (c : Int) (x : Int)) 1 = (((c ^^^ x) % 2 : Nat) : Int) := by
  rw [u8_xor_nat c x hc hx]
  have h : c ^^^ x < 256 := Nat.xor_lt_two_pow (n := 8) hc hx
  have e := u8_and_nat (c ^^^ x) 1 h (by decide)
  rw [nat_mask1] at e
  exact e
theorem u8_eq {a b : Int} (h : a = b) : Value.int .u8 a = .int .u8 b := by rw [h]

set_option maxHeartbeats 400000 in
theorem addByte_nat (c mix x : Nat) (w : World) (hc : c < 256) (hm : mix < 256) (hx : x < 256) :
    Calls Tryz.prog 143 #[.int .u8 c, .int .u8 mix, .int .u8 x] w fun e w' => e = .returned (.int .u8 (plain.crcB mix c (plain.byteBits x) : Nat)) ∧ w' = w := by
  go_enter Tryz.func143, Tryz.ntmps143
  go_wp2
  go_loop [0, 2, 7] (fun a b i => ∃ j : Nat, j ≤ 8 ∧ i = .int .i64 j ∧ a = .int .u8 (plain.crcB mix c ((plain.byteBits x).take j) : Nat) ∧ b = .int .u8 (x / 2 ^ j : Nat)) (fun _ _ i => 8 - (intOf i).toNat)
  case atStart => exact ⟨0, by omega, rfl, rfl, by simp⟩
  case round =>
    obtain ⟨j, hj, rfl, rfl, rfl⟩ := hrel
    have hC := plain.crcB_lt 8 mix c ((plain.byteBits x).take j) hm hc
    have hX : x / 2 ^ j < 256 := Nat.lt_of_le_of_lt (Nat.div_le_self _ _) hx
    by_cases hlt : j < 8
    · have hs := hide (plain.crcB_snoc mix c ((plain.byteBits x).take j) (x / 2 ^ j % 2 == 1))
      have ht := hide (plain.byteBits_take x j hlt)
      have hd := hide (show x / 2 ^ (j + 1) = x / 2 ^ j / 2 by rw [Nat.pow_succ, Nat.div_div_eq_div_mul])
      generalize plain.crcB mix c ((plain.byteBits x).take j) = C at *
      generalize x / 2 ^ j = X at *
      have hC' : C < 256 := hC
      clear hC
      have hlow := hide (low_bit C X hC' hX)
      by_cases hb : (C ^^^ X) % 2 = 1
      · have hb2 : (bits BinOp.and IntKind.u8 (bits BinOp.xor IntKind.u8 (C : Int) (X : Int)) 1 == 1) = true := by rw [unhide hlow, hb]; rfl
        have hb' := hide hb
        clear hb
        go_wp2
        go_round
        case rel =>
          refine ⟨j + 1, by omega, by go_num, ?_, ?_⟩
          · rw [unhide ht, unhide hs, plain.stepB_yes _ _ _ (unhide hb')]
            exact u8_eq (u8_xor_nat (C / 2) mix (by omega) hm)
          · rw [unhide hd]; go_num
        case measure => simp [intOf]; omega
      · have hb2 : (bits BinOp.and IntKind.u8 (bits BinOp.xor IntKind.u8 (C : Int) (X : Int)) 1 == 1) = false := by
          rw [unhide hlow, show (C ^^^ X) % 2 = 0 by omega]; rfl
        have hb' := hide hb
        clear hb
        go_wp2
        go_round
        case rel =>
          refine ⟨j + 1, by omega, by go_num, ?_, ?_⟩
          · rw [unhide ht, unhide hs, plain.stepB_no _ _ _ (unhide hb')]; go_num
          · rw [unhide hd]; go_num
        case measure => simp [intOf]; omega
    · have e : j = 8 := by omega
      subst e
      go_wp2
      go_ret
      exact ⟨ret_int (by rw [List.take_of_length_le (by simp [plain.byteBits])]), rfl⟩

theorem addByte_any (c mix x : Int) (w : World) (c0 : 0 ≤ c) (hc : c < 256) (m0 : 0 ≤ mix) (hm : mix < 256) (x0 : 0 ≤ x) (hx : x < 256) :
    Calls Tryz.prog 143 #[.int .u8 c, .int .u8 mix, .int .u8 x] w fun e w' => e = .returned (.int .u8 (plain.crcB mix.toNat c.toNat (plain.byteBits x.toNat) : Nat)) ∧ w' = w := by
  obtain ⟨c, rfl⟩ := Int.eq_ofNat_of_zero_le c0
  obtain ⟨mix, rfl⟩ := Int.eq_ofNat_of_zero_le m0
  obtain ⟨x, rfl⟩ := Int.eq_ofNat_of_zero_le x0
  simp only [Int.toNat_natCast]
  exact addByte_nat c mix x w (by omega) (by omega) (by omega)

/-- what Crc answers -/
def crcR (wd : Int) (l : List UInt8) : Int := if wd = 3 ∨ wd = 7 ∨ wd = 8 then (plain.checkOf wd.toNat l : Nat) else 0
def crcE (wd : Int) : Int := if wd = 3 ∨ wd = 7 ∨ wd = 8 then 0 else 1

theorem checkOf_lt (wd : Nat) (l : List UInt8) (h : wd = 3 ∨ wd = 7 ∨ wd = 8) : plain.checkOf wd l < 2 ^ wd := by
  unfold plain.checkOf
  refine plain.crcB_lt wd _ _ _ ?_ ?_
  · rcases h with rfl | rfl | rfl <;> decide
  · rcases h with rfl | rfl | rfl <;> decide
theorem crcR_bd (wd : Int) (l : List UInt8) : 0 ≤ crcR wd l ∧ crcR wd l ≤ 255 := by
  unfold crcR
  split
  · rename_i h
    have h1 := checkOf_lt wd.toNat l (by omega)
    have h2 : (2 : Nat) ^ wd.toNat ≤ 2 ^ 8 := Nat.pow_le_pow_right (by decide) (by omega)
    have h3 : (2 : Nat) ^ 8 = 256 := by decide
    omega
  · omega

set_option maxHeartbeats 400000 in
theorem rule_bad (wd : Int) (w : World) (h3 : (wd == 3) = false) (h7 : (wd == 7) = false) (h8 : (wd == 8) = false) :
    Calls Tryz.prog 142 #[.int .i64 wd] w fun e w' => e = .returned (.tuple #[.int .u8 0, .int .u8 0]) ∧ w' = w := by
  go_enter Tryz.func142, Tryz.ntmps142
  go_wp2
  go_ret2
  exact ⟨rfl, rfl⟩

set_option maxHeartbeats 400000 in
theorem rule_3 (w : World) : Calls Tryz.prog 142 #[.int .i64 3] w fun e w' => e = .returned (.tuple #[.int .u8 7, .int .u8 6]) ∧ w' = w := by
  go_enter Tryz.func142, Tryz.ntmps142
  go_wp2
  go_ret2
  exact ⟨rfl, rfl⟩
set_option maxHeartbeats 400000 in
theorem rule_7 (w : World) : Calls Tryz.prog 142 #[.int .i64 7] w fun e w' => e = .returned (.tuple #[.int .u8 127, .int .u8 121]) ∧ w' = w := by
  go_enter Tryz.func142, Tryz.ntmps142
  go_wp2
  go_ret2
  exact ⟨rfl, rfl⟩
set_option maxHeartbeats 400000 in
theorem rule_8 (w : World) : Calls Tryz.prog 142 #[.int .i64 8] w fun e w' => e = .returned (.tuple #[.int .u8 255, .int .u8 224]) ∧ w' = w := by
  go_enter Tryz.func142, Tryz.ntmps142
  go_wp2
  go_ret2
  exact ⟨rfl, rfl⟩

set_option maxHeartbeats 400000 in
theorem ccrc_bad (wd : Int) (s : ByteArray) (w : World) (h3 : (wd == 3) = false) (h7 : (wd == 7) = false) (h8 : (wd == 8) = false) :
    Calls Tryz.prog 134 #[.int .i64 wd, .string s] w fun e w' => e = .returned (.tuple #[.int .u8 0, .int .i64 1]) ∧ w' = w := by
  go_enter Tryz.func134, Tryz.ntmps134
  go_wp2_with (go_at_call 142; refine (rule_bad _ _ h3 h7 h8).mono ?_; rintro e w' ⟨rfl, rfl⟩)
  go_ret2
  exact ⟨rfl, rfl⟩

theorem run_bits (mix c : Nat) (s : ByteArray) (k : Nat) (h : k < s.size) :
    plain.crcB mix c (plain.bitsOf (s.data.toList.take (k + 1))) = plain.crcB mix (plain.crcB mix c (plain.bitsOf (s.data.toList.take k))) (plain.byteBits s[k].toNat) := by
  rw [take_snoc s k h, plain.bitsOf_snoc, plain.crcB_append]

set_option maxHeartbeats 400000 in
theorem ccrc_good (wd : Int) (st mix : Int) (s : ByteArray) (w : World) (hs : s.size ≤ maxLen) (h0 : 0 < st) (h1 : st < 256) (m0 : 0 ≤ mix) (m1 : mix < 256)
    (hrule : ∀ w, Calls Tryz.prog 142 #[.int .i64 wd] w fun e w' => e = .returned (.tuple #[.int .u8 st, .int .u8 mix]) ∧ w' = w) :
    Calls Tryz.prog 134 #[.int .i64 wd, .string s] w fun e w' => e = .returned (.tuple #[.int .u8 (plain.crcB mix.toNat st.toNat (plain.bitsOf s.data.toList) : Nat), .int .i64 0]) ∧ w' = w := by
  unfold maxLen at hs
  have H := hide hrule
  clear hrule
  have hne : (st == 0) = false := by simp; omega
  go_enter Tryz.func134, Tryz.ntmps134
  go_wp2_with (go_at_call 142; refine (unhide H _).mono ?_; rintro e w' ⟨rfl, rfl⟩)
  go_loop [8, 9] (fun a i => ∃ k : Nat, k ≤ s.size ∧ i = .int .i64 k ∧ a = .int .u8 (plain.crcB mix.toNat st.toNat (plain.bitsOf (s.data.toList.take k)) : Nat)) (fun _ i => s.size - (intOf i).toNat)
  case atStart => exact ⟨0, Nat.zero_le _, rfl, by simp [plain.bitsOf, plain.crcB]; omega⟩
  case round =>
    obtain ⟨k, hk, rfl, rfl⟩ := hrel
    have hC := plain.crcB_lt 8 mix.toNat st.toNat (plain.bitsOf (s.data.toList.take k)) (by omega) (by omega)
    by_cases hlt : k < s.size
    · have hrun := hide (run_bits mix.toNat st.toNat s k hlt)
      have hbyte := s[k].toNat_lt
      generalize plain.crcB mix.toNat st.toNat (plain.bitsOf (s.data.toList.take k)) = C at *
      go_wp2_with (go_at_call 143; refine (addByte_any _ _ _ _ (by omega) (by omega) m0 m1 (by omega) (by omega)).mono ?_; rintro e w' ⟨rfl, rfl⟩)
      go_round
      case rel => exact ⟨k + 1, by omega, by go_num, by rw [unhide hrun]⟩
      case measure => simp [intOf]; omega
    · have e : k = s.size := by omega
      subst e
      go_wp2_with fail
      go_ret2
      exact ⟨ret_two (by rw [List.take_of_length_le (by simp)]) rfl, rfl⟩

theorem check3 (l : List UInt8) : plain.checkOf 3 l = plain.crcB (6 : Int).toNat (7 : Int).toNat (plain.bitsOf l) := rfl
theorem check7 (l : List UInt8) : plain.checkOf 7 l = plain.crcB (121 : Int).toNat (127 : Int).toNat (plain.bitsOf l) := rfl
theorem check8 (l : List UInt8) : plain.checkOf 8 l = plain.crcB (224 : Int).toNat (255 : Int).toNat (plain.bitsOf l) := rfl
theorem crcR3 (l : List UInt8) : crcR 3 l = (plain.checkOf 3 l : Nat) := rfl
theorem crcR7 (l : List UInt8) : crcR 7 l = (plain.checkOf 7 l : Nat) := rfl
theorem crcR8 (l : List UInt8) : crcR 8 l = (plain.checkOf 8 l : Nat) := rfl

theorem ccrc_any (wd : Int) (s : ByteArray) (w : World) (hs : s.size ≤ maxLen) :
    Calls Tryz.prog 134 #[.int .i64 wd, .string s] w fun e w' => e = .returned (.tuple #[.int .u8 (crcR wd s.data.toList), .int .i64 (crcE wd)]) ∧ w' = w := by
  by_cases h : wd = 3 ∨ wd = 7 ∨ wd = 8
  · rcases h with rfl | rfl | rfl
    · rw [crcR3, check3]
      exact ccrc_good 3 7 6 s w hs (by decide) (by decide) (by decide) (by decide) rule_3
    · rw [crcR7, check7]
      exact ccrc_good 7 127 121 s w hs (by decide) (by decide) (by decide) (by decide) rule_7
    · rw [crcR8, check8]
      exact ccrc_good 8 255 224 s w hs (by decide) (by decide) (by decide) (by decide) rule_8
  · have e1 : crcR wd s.data.toList = 0 := by unfold crcR; rw [if_neg h]
    have e2 : crcE wd = 1 := by unfold crcE; rw [if_neg h]
    rw [e1, e2]
    exact ccrc_bad wd s w (by simp; omega) (by simp; omega) (by simp; omega)

def shareB (i b : Int) : Int := if i % 2 = 0 then 256 * b else b
theorem and_low16 (n : Nat) (h : n < 4294967296) : bits BinOp.and IntKind.u32 (n : Int) 65535 = ((n % 65536 : Nat) : Int) := by
  have e := u32_and_nat n 65535 h (by decide)
  rw [nat_mask16] at e
  exact e
theorem csum_step (s : ByteArray) (k : Nat) (h : k < s.size) :
    (bits BinOp.and IntKind.u32 (((plain.fold16 (plain.psum s.data.toList k) : Nat) : Int) + shareB (k : Int) (s[k].toNat : Int)) 65535 +
      (((plain.fold16 (plain.psum s.data.toList k) : Nat) : Int) + shareB (k : Int) (s[k].toNat : Int)) / 65536) % 4294967296 = ((plain.fold16 (plain.psum s.data.toList (k + 1)) : Nat) : Int) := by
  have hT := plain.fold16_le (plain.psum s.data.toList k)
  have hb := s[k].toNat_lt
  obtain ⟨d, hd, hd2, hd3⟩ : ∃ d : Nat, shareB (k : Int) (s[k].toNat : Int) = d ∧ d ≤ 65280 ∧ plain.psum s.data.toList (k + 1) = plain.psum s.data.toList k + d := by
    have hg := get_byte s k h
    by_cases hk : k % 2 = 0
    · refine ⟨256 * s[k].toNat, ?_, by omega, ?_⟩
      · unfold shareB; rw [if_pos (by omega)]; omega
      · rw [plain.psum_even _ _ hk, hg]
    · refine ⟨s[k].toNat, ?_, by omega, ?_⟩
      · unfold shareB; rw [if_neg (by omega)]
      · rw [plain.psum_odd _ _ (by omega), hg]
  rw [hd, hd3, ← plain.fold16_add, ← plain.carry_step _ _ hT hd2]
  generalize plain.fold16 (plain.psum s.data.toList k) = T at *
  rw [show ((T : Int) + (d : Int)) = ((T + d : Nat) : Int) by omega, and_low16 _ (by omega)]
  omega
theorem xor_ones (n : Nat) (h : n < 65536) : 65535 ^^^ n = 65535 - n := by
  have e : (BitVec.allOnes 16 ^^^ BitVec.ofNat 16 n).toNat = (~~~ (BitVec.ofNat 16 n)).toNat := by rw [BitVec.allOnes_xor]
  rw [BitVec.toNat_xor, BitVec.toNat_not, BitVec.toNat_allOnes, BitVec.toNat_ofNat, Nat.mod_eq_of_lt (by omega)] at e
  exact e
theorem not16 (n : Nat) (h : n ≤ 65535) : bits BinOp.xor IntKind.u16 IntKind.u16.max (n : Int) = ((65535 - n : Nat) : Int) := by
  have e := u16_xor_nat 65535 n (by decide) (by omega)
  rw [xor_ones n (by omega)] at e
  exact e

theorem csum_end (s : ByteArray) : bits BinOp.xor IntKind.u16 IntKind.u16.max ((plain.fold16 (plain.psum s.data.toList s.size) : Nat) : Int) = ((plain.sumOf s.data.toList : Nat) : Int) := by
  rw [not16 _ (plain.fold16_le _)]
  rfl

end Go.Proofs.YtgpojbgjfibblabGreat.bits

namespace Go.Proofs.YtgpojbgjfibblabGreat.bits
open Go.RowKit
set_option linter.unusedVariables false

theorem psum_two (s : ByteArray) (k : Nat) (hk : k % 2 = 0) (h : k + 1 < s.size) :
    plain.psum s.data.toList (k + 2) = plain.psum s.data.toList k + 256 * s[k].toNat + s[k + 1].toNat := by
  rw [plain.psum_odd _ (k + 1) (by omega), plain.psum_even _ k hk, get_byte s k (by omega), get_byte s (k + 1) h]
theorem psum_one (s : ByteArray) (k : Nat) (hk : k % 2 = 0) (h : k < s.size) (h' : s.size ≤ k + 1) :
    plain.psum s.data.toList (k + 2) = plain.psum s.data.toList k + 256 * s[k].toNat := by
  rw [plain.psum_past _ (k + 1) (by simpa using h'), plain.psum_even _ k hk, get_byte s k h]
theorem psum_end (s : ByteArray) (k : Nat) (h : s.size ≤ k) (h' : k ≤ s.size + 1) : plain.psum s.data.toList k = plain.psum s.data.toList s.size := by
  by_cases e : k = s.size
  · rw [e]
  · rw [show k = s.size + 1 by omega, plain.psum_past _ _ (by simp)]
theorem sumOf_end (s : ByteArray) (m : Nat) (h : m ≤ 65535) (hm : plain.fold16 m = plain.fold16 (plain.psum s.data.toList s.size)) : (65535 - (m : Int)) = ((plain.sumOf s.data.toList : Nat) : Int) := by
  have e : plain.sumOf s.data.toList = 65535 - m := by
    unfold plain.sumOf
    rw [show s.data.toList.length = s.size from by simp, ← hm, plain.fold16_id m h]
  rw [e]; omega

end Go.Proofs.YtgpojbgjfibblabGreat.bits

namespace Go.Proofs.YtgpojbgjfibblabGreat.bits
open Go.RowKit
set_option linter.unusedVariables false

theorem infoB : (Tryz.prog.info? 4).map (fun i => (i.zero, i.size, i.bytes)) = some (some (.bool false), 1, 1) := by kernel_rfl

theorem bitI (X : Nat) : ((X : Int) % 2 == 1) = (X % 2 == 1) := by
  rcases Nat.mod_two_eq_zero_or_one X with h | h
  · rw [h, show ((X : Int) % 2) = 0 by omega]; rfl
  · rw [h, show ((X : Int) % 2) = 1 by omega]; rfl

/-- one bit more: what the append leaves -/
theorem bits_more {B : Nat} {w wr w1 : World} {v v' : Value} {l : List Bool} {n : Nat} {x X j : Nat} {o : Obj}
    (hj : j < 8) (hX : X = x / 2 ^ j) (hbel : Below B w wr) (hB : B ≤ wr.heap.size)
    (hown : wr.ownsRow B 4 1 v n ((l ++ (plain.byteBits x).take j).map Value.bool))
    (hown1 : w1.ownsRow B 4 1 v' (n + 1) ((l ++ (plain.byteBits x).take j).map Value.bool ++ [.bool ((X : Int) % 2 == 1)])) (hg : (wr.alloc o).grownBy w1 v.ownBlock) :
    w1.ownsRow B 4 1 v' (n + 1) ((l ++ (plain.byteBits x).take (j + 1)).map Value.bool) ∧ Below B w w1 ∧ B ≤ w1.heap.size := by
  have hb1 : Below B w w1 := (hbel.alloc hB o).grown hg (by simp; omega) (fun k hk => (hown.lt k hk).1)
  refine ⟨?_, hb1, ?_⟩
  · rw [plain.byteBits_take x j hj, ← hX, ← bitI]
    simpa using hown1
  · have := hg.size
    simp at this
    omega

theorem bits_byte {B : Nat} {wr : World} {v : Value} {s : ByteArray} {k : Nat} (hlt : k < s.size)
    (hown : wr.ownsRow B 4 1 v (8 * k + 8) ((plain.bitsOf (s.data.toList.take k) ++ (plain.byteBits s[k].toNat).take 8).map Value.bool)) :
    wr.ownsRow B 4 1 v (8 * (k + 1)) ((plain.bitsOf (s.data.toList.take (k + 1))).map Value.bool) := by
  rw [take_snoc s k hlt, plain.bitsOf_snoc]
  rw [List.take_of_length_le (l := plain.byteBits s[k].toNat) (by rw [plain.byteBits_length]; exact Nat.le_refl _)] at hown
  exact hown

set_option maxHeartbeats 1000000 in
set_option maxRecDepth 100000 in
theorem rbits_any (s : ByteArray) (w : World) (hs : s.size ≤ 1048576) :
    Calls Tryz.prog 111 #[.string s] w fun e w' => ∃ v, e = .returned v ∧ w'.ownsRow w.heap.size 4 1 v (8 * s.size) ((plain.bitsOf s.data.toList).map Value.bool) ∧ Below w.heap.size w w' := by
  obtain ⟨i0, hi, hz0, hz1, hz2⟩ := info_parts infoB
  obtain ⟨B, hB⟩ : ∃ B, B = w.heap.size := ⟨_, rfl⟩
  rw [← hB]
  have HB := hide hB
  clear hB
  go_enter Tryz.func111, Tryz.ntmps111
  go_wp2_with fail
  go_loopw [3, 4] (fun v i wr => ∃ k : Nat, k ≤ s.size ∧ i = .int .i64 k ∧ wr.ownsRow B 4 1 v (8 * k) ((plain.bitsOf (s.data.toList.take k)).map Value.bool) ∧ Below B w wr ∧ B ≤ wr.heap.size) (fun _ i _ => s.size - (intOf i).toNat)
  case atStart => exact ⟨0, Nat.zero_le _, rfl, World.ownsRow_nil _ _ _ _, Below.refl _ _, by rw [unhide HB]; exact Nat.le_refl _⟩
  case round =>
    obtain ⟨k, hk, rfl, hown, hbel, hsz⟩ := hrel
    by_cases hlt : k < s.size
    · have hb := s[k].toNat_lt
      have HO := hide hown
      have HBL := hide hbel
      clear hown hbel
      go_wp2_with fail
      go_loopw [3, 5, 6] (fun v b j wq => ∃ q : Nat, q ≤ 8 ∧ j = .int .i64 q ∧ b = .int .i64 (s[k].toNat / 2 ^ q : Nat) ∧ wq.ownsRow B 4 1 v (8 * k + q) ((plain.bitsOf (s.data.toList.take k) ++ (plain.byteBits s[k].toNat).take q).map Value.bool) ∧ Below B w wq ∧ B ≤ wq.heap.size) (fun _ _ j _ => 8 - (intOf j).toNat)
      case atStart => exact ⟨0, by omega, rfl, by simp, by simpa using unhide HO, unhide HBL, hsz⟩
      case round =>
        obtain ⟨q, hq, rfl, rfl, hown, hbel, hszq⟩ := hrel
        clear HO HBL hsz
        by_cases hlt2 : q < 8
        · have hd := hide (show s[k].toNat / 2 ^ (q + 1) = s[k].toNat / 2 ^ q / 2 by rw [Nat.pow_succ, Nat.div_div_eq_div_mul])
          have hX : s[k].toNat / 2 ^ q < 256 := Nat.lt_of_le_of_lt (Nat.div_le_self _ _) hb
          generalize hXX : s[k].toNat / 2 ^ q = X at *
          have HXX := hide hXX
          clear hXX
          have HBL := hide hbel
          clear hbel
          go_wp2_with (at_builtin; refine wpList_append_own _ rfl _ _ 188 rfl B 4 i0 (.bool false) 1 1 Tryz.underlying188 hi hz0 hz1 hz2 rfl (by decide) _ _ _ rfl (hown.alloc _) ⟨wr.heap.size, 0, none⟩ 1 1 [.bool ((X : Int) % 2 == 1)] rfl rfl ?c1 ?c2 ?c3 ?c4 ?c5 ?_)
          case c1 =>
            intro j u hj
            match j, hj with
            | 0, hj => simp at hj; subst hj; simp [Addr.add]
          case c2 => intro u hu; simp at hu; subst hu; rfl
          case c3 => unfold maxLen; omega
          case c4 => omega
          case c5 => simp; omega
          · intro v' w1 hown1 hgrow _
            obtain ⟨R1, R2, R3⟩ := bits_more hlt2 (unhide HXX).symm (unhide HBL) hszq hown (by simpa using hown1) hgrow
            clear hown hown1 hgrow HBL hszq
            have H1 := hide R1
            have H2 := hide R2
            clear R1 R2
            go_wp2
            go_roundw
            case rel => exact ⟨q + 1, by omega, by go_num, by rw [unhide hd]; go_num, unhide H1, unhide H2, R3⟩
            case measure => simp [intOf]; omega
        · have e : q = 8 := by omega
          subst e
          have hown2 := bits_byte hlt hown
          have HO := hide hown2
          have HBL := hide hbel
          clear hown hown2 hbel
          go_wp2
          go_roundw
          case rel => exact ⟨k + 1, by omega, by go_num, unhide HO, unhide HBL, hszq⟩
          case measure => simp [intOf]; omega
    · have e : k = s.size := by omega
      subst e
      rw [List.take_of_length_le (by simp)] at hown
      have HO := hide hown
      have HBL := hide hbel
      clear hown hbel
      go_wp2_with fail
      go_ret
      exact ⟨_, rfl, unhide HO, unhide HBL⟩

end Go.Proofs.YtgpojbgjfibblabGreat.bits

namespace Go.Proofs.YtgpojbgjfibblabGreat.bits
open Go.RowKit
set_option linter.unusedVariables false

/-- a bit of a number, under a name that nothing lays open -/
def tb (c i : Nat) : Bool := c.testBit i
/-- a row of bits; the same with the first k alone -/
def rowL (wd c : Nat) : List Value := (List.range wd).map fun i => .bool (tb c i)
def partL (wd c k : Nat) : List Value := (List.range wd).map fun i => .bool (decide (i < k) && tb c i)

theorem partL_length (wd c k : Nat) : (partL wd c k).length = wd := by simp [partL]
theorem rowL_length (wd c : Nat) : (rowL wd c).length = wd := by simp [rowL]
theorem partL_zero (wd c : Nat) : List.replicate wd (Value.bool false) = partL wd c 0 := by
  refine List.ext_getElem (by simp [partL]) fun i h1 h2 => ?_
  simp [partL]
theorem partL_full (wd c : Nat) : partL wd c wd = rowL wd c := by
  refine List.ext_getElem (by simp [partL, rowL]) fun i h1 h2 => ?_
  have h : i < wd := by simpa [rowL] using h2
  simp [partL, rowL, h]
theorem partL_set (wd c k : Nat) (hk : k < wd) : (partL wd c k).set k (.bool (tb c k)) = partL wd c (k + 1) := by
  refine List.ext_getElem (by simp [partL]) fun i h1 h2 => ?_
  rw [List.getElem_set]
  simp only [partL, List.getElem_map, List.getElem_range]
  by_cases h : k = i
  · subst h; simp
  · rw [if_neg h]
    by_cases h3 : i < k
    · simp [h3, show i < k + 1 by omega]
    · simp [h3, show ¬ i < k + 1 by omega]
theorem rowL_at (wd c k : Nat) (hk : k < wd) : (rowL wd c)[k]? = some (.bool (tb c k)) := by
  rw [List.getElem?_eq_getElem (by simp [rowL]; exact hk)]; simp [rowL]
theorem partL_at (wd c j k : Nat) (hk : k < wd) : (partL wd c j)[k]? = some (.bool (decide (k < j) && tb c k)) := by
  rw [List.getElem?_eq_getElem (by simp [partL]; exact hk)]; simp [partL]

/-- a slice value over its own block -/
abbrev sl (g wd : Nat) : Value := .slice (some ⟨g, 0, none⟩) wd wd

theorem own_form {w : World} {base : Nat} {e : TypeId} {v : Value} {n : Nat} {xs : List Value} (h : w.ownsRow base e 1 v n xs) :
    ∃ ao cap, v = .slice ao n cap ∧ (0 < n → ∃ g, ao = some ⟨g, 0, none⟩ ∧ g < w.heap.size) := by
  rcases h.2 with ⟨rfl, rfl⟩ | ⟨g, cap, cur, rfl, hb, hg, r⟩
  · exact ⟨none, 0, rfl, fun h => absurd h (by omega)⟩
  · refine ⟨some ⟨g, 0, none⟩, cap, rfl, fun _ => ⟨g, rfl, ?_⟩⟩
    exact (Array.getElem?_eq_some_iff.1 hg).1

/-- what is owned does not depend on the draws -/
theorem own_drewN {w : World} {base : Nat} {e : TypeId} {size : Nat} {v : Value} {n : Nat} {xs : List Value} (h : w.ownsRow base e size v n xs) (m : Nat) : (w.drewN m).ownsRow base e size v n xs := h

theorem own_below {w w2 : World} {base : Nat} {e : TypeId} {size : Nat} {v : Value} {n : Nat} {xs : List Value} (h : w.ownsRow base e size v n xs) (hb : Below w.heap.size w w2) : w2.ownsRow base e size v n xs := by
  refine ⟨h.1, ?_⟩
  rcases h.2 with h2 | ⟨g, cap, cur, hv, hg, hh, r⟩
  · exact Or.inl h2
  · exact Or.inr ⟨g, cap, cur, hv, hg, by rw [hb.block g (Array.getElem?_eq_some_iff.1 hh).1]; exact hh, r⟩
theorem own_base {w : World} {base base2 : Nat} {e : TypeId} {size : Nat} {v : Value} {n : Nat} {xs : List Value} (h : w.ownsRow base e size v n xs) (hb : base2 ≤ base) : w.ownsRow base2 e size v n xs := by
  refine ⟨h.1, ?_⟩
  rcases h.2 with h2 | ⟨g, cap, cur, hv, hg, r⟩
  · exact Or.inl h2
  · exact Or.inr ⟨g, cap, cur, hv, by omega, r⟩

section
variable {w wr : World} {B g wd c k : Nat}

/-- a bit is stored -/
theorem part_store (hk : k < wd) (h : wr.ownsRow B 4 1 (sl g wd) wd (partL wd c k)) :
    (wr.setCell ⟨g, k, none⟩ (.bool (tb c k))).ownsRow B 4 1 (sl g wd) wd (partL wd c (k + 1)) := by
  have e := (h.stored k (.bool (tb c k))).1
  rw [partL_set wd c k hk] at e
  exact e
theorem part_put (hk : k < wd) (h : wr.ownsRow B 4 1 (sl g wd) wd (partL wd c k)) {x : Bool} (hx : x = tb c k) :
    (wr.setCell ⟨g, k, none⟩ (.bool x)).ownsRow B 4 1 (sl g wd) wd (partL wd c (k + 1)) := by
  rw [hx]; exact part_store hk h
theorem own_ge {xs : List Value} (h : wr.ownsRow B 4 1 (sl g wd) wd xs) : B ≤ g ∧ g < wr.heap.size := h.lt g rfl
theorem part_cell (hk : k < wd) {j : Nat} (h : wr.ownsRow B 4 1 (sl g wd) wd (partL wd c j)) : wr.cell? ⟨g, k, none⟩ = some (.bool (decide (k < j) && tb c k)) := by
  rw [h.cellAt k (by omega), partL_at wd c j k hk]
theorem row_cell (hk : k < wd) (h : wr.ownsRow B 4 1 (sl g wd) wd (rowL wd c)) : wr.cell? ⟨g, k, none⟩ = some (.bool (tb c k)) := by
  rw [h.cellAt k (by omega), rowL_at wd c k hk]
end

theorem bits_at (l : List Bool) (i : Nat) (h : i < l.length) : (l.map Value.bool)[i]? = some (.bool (l[i]?.getD false)) := by
  rw [List.getElem?_map, List.getElem?_eq_getElem h]; rfl

theorem start_bit (wd k : Nat) (h : k < wd) : tb (plain.startOf wd) k = true := by
  unfold tb
  unfold plain.startOf; rw [Nat.testBit_two_pow_sub_one]; simp [h]

/-- the next bit of the row -/
theorem next_bit (wd mix c k : Nat) (b : Bool) (t1 : Bool) (hc : c < 2 ^ wd) (hk : k < wd) (ht : t1 = mix.testBit k) :
    ((decide (k + 1 < wd) && tb c (k + 1)) != ((!(tb c 0 == b)) && t1)) = tb (plain.stepB mix c b) k := by
  unfold tb
  show ((decide (k + 1 < wd) && c.testBit (k + 1)) != ((c.testBit 0 != b) && t1)) = _
  rw [plain.stepB_testBit, ht]
  by_cases h : k + 1 < wd
  · simp [h]
  · have e : c.testBit (k + 1) = false := Nat.testBit_lt_two_pow (Nat.lt_of_lt_of_le hc (Nat.pow_le_pow_right (by decide) (by omega)))
    simp [h, e]

theorem crc_next (mix c : Nat) (l : List Bool) (i : Nat) (h : i < l.length) : plain.crcB mix c (l.take (i + 1)) = plain.stepB mix (plain.crcB mix c (l.take i)) (l[i]?.getD false) := by
  rw [List.take_succ_eq_append_getElem h, plain.crcB_snoc, List.getElem?_eq_getElem h]; rfl

end Go.Proofs.YtgpojbgjfibblabGreat.bits

namespace Go.Proofs.YtgpojbgjfibblabGreat.bits
open Go.RowKit
set_option linter.unusedVariables false

set_option maxHeartbeats 1000000 in
set_option maxRecDepth 100000 in
theorem rcheck_gen (wd mix : Nat) (t s : ByteArray) (w : World) (hs : s.size ≤ 1048576) (hw0 : 0 < wd) (hw : wd ≤ 8) (hm : mix < 2 ^ wd) (ht : t.size = wd)
    (htb : ∀ k (h : k < t.size), ((t[k].toNat : Int) == 49) = mix.testBit k)
    (htaps : ∀ w, Calls Tryz.prog 110 #[.int .i64 wd] w fun e w' => e = .returned (.string t) ∧ w' = w) :
    Calls Tryz.prog 83 #[.int .i64 wd, .string s] w fun e w' => e = .returned (.int .i64 (plain.crcB mix (plain.startOf wd) (plain.bitsOf s.data.toList) : Nat)) ∧ Below w.heap.size w w' := by
  obtain ⟨i0, hi, hz0, hz1, hz2⟩ := info_parts infoB
  obtain ⟨B, hB⟩ : ∃ B, B = w.heap.size := ⟨_, rfl⟩
  rw [← hB]
  have HB := hide hB
  have HT := hide htaps
  have HTB := hide htb
  have Ht := hide ht
  have HM := hide hm
  clear hB htaps htb ht hm
  go_enter Tryz.func83, Tryz.ntmps83
  go_wp2_with (at_make; refine wpList_make_full _ rfl _ _ 188 rfl B 4 i0 (.bool false) 1 Tryz.underlying188 hi hz0 hz1 .i64 .i64 _ _ wd rfl rfl rfl rfl (by rw [hz2]; omega) (by unfold maxLen; omega) (by rw [unhide HB]; exact Nat.le_refl _) ?_; intro w1 hown1 hgrow1)
  obtain ⟨G, hG⟩ : ∃ G, G = w.heap.size := ⟨_, rfl⟩
  rw [← hG] at hown1 ⊢
  have hown1' : w1.ownsRow B 4 1 (sl G wd) wd (partL wd (plain.startOf wd) 0) := by
    rw [← partL_zero]
    rw [show (Value.bool false).cells = #[.bool false] from rfl, toList_madeCells_one, Nat.mul_one] at hown1
    exact hown1
  have hb1 : Below B w w1 := (Below.refl B w).grown hgrow1 (by rw [unhide HB]; exact Nat.le_refl _) (fun k hk => by cases hk)
  have hz : B ≤ w1.heap.size := by have := hgrow1.size; have := unhide HB; omega
  clear hown1 hgrow1 hG
  go_loopw [6] (fun i wr => ∃ k : Nat, k ≤ wd ∧ i = .int .i64 k ∧ wr.ownsRow B 4 1 (sl G wd) wd (partL wd (plain.startOf wd) k) ∧ Below B w wr ∧ B ≤ wr.heap.size) (fun i _ => wd - (intOf i).toNat)
  case atStart => exact ⟨0, Nat.zero_le _, rfl, hown1', hb1, hz⟩
  case round =>
    obtain ⟨k, hk, rfl, hown, hbel, hsz⟩ := hrel
    clear hown1' hb1 hz
    by_cases hlt : k < wd
    · have hcell := part_cell hlt hown
      have hfz := hown.frozenAt k
      have hst := hide (part_store hlt hown)
      have hge := hide (own_ge hown)
      have hbit := hide (start_bit wd k hlt)
      have HBL := hide hbel
      clear hown hbel
      go_wp2
      go_roundw
      case rel =>
        have e := unhide hst
        rw [unhide hbit] at e
        exact ⟨k + 1, by omega, by go_num, e, (unhide HBL).setCell (unhide hge).1 _, by simp; omega⟩
      case measure => simp [intOf]; omega
    · have e : wd = k := by omega
      subst e
      rw [partL_full] at hown
      have hown0 := hide hown
      have HBL := hide hbel
      clear hown hbel
      go_wp2_with (first | (go_at_call 110; refine (unhide HT _).mono ?_; rintro e w' ⟨rfl, rfl⟩) | (go_at_call 111; refine (rbits_any _ _ hs).mono ?_; rintro e w2 ⟨v, rfl, hownb, hbelb⟩))
      obtain ⟨ao, cap, rfl, hao⟩ := own_form hownb
      have hA := hide hao
      have o1 := own_below (unhide hown0) hbelb
      have o2 := own_base hownb hsz
      have o3 := (unhide HBL).trans (hbelb.mono hsz)
      have o4 : B ≤ w2.heap.size := Nat.le_trans hsz hbelb.size
      obtain ⟨L, hL⟩ : ∃ L, L = plain.bitsOf s.data.toList := ⟨_, rfl⟩
      rw [← hL] at o2
      have hlen : L.length = 8 * s.size := by rw [hL, plain.bitsOf_length]; simp
      have HL := hide hL
      have Hlen := hide hlen
      clear hownb hbelb hown0 HBL hao hL hlen HT
      go_loopw [5, 9] (fun r i wr => ∃ k g : Nat, k ≤ 8 * s.size ∧ i = .int .i64 k ∧ r = .slice (some ⟨g, 0, none⟩) wd wd ∧ wr.ownsRow B 4 1 (sl g wd) wd (rowL wd (plain.crcB mix (plain.startOf wd) (L.take k))) ∧
          wr.ownsRow B 4 1 (.slice ao (8 * s.size) cap) (8 * s.size) (L.map Value.bool) ∧ Below B w wr ∧ B ≤ wr.heap.size) (fun _ i _ => 8 * s.size - (intOf i).toNat)
      case atStart => exact ⟨0, G, Nat.zero_le _, rfl, rfl, by simpa [plain.crcB] using o1, o2, o3, o4⟩
      case round =>
        obtain ⟨k, g, hk, rfl, rfl, hrow, hbits, hbel, hsz2⟩ := hrel
        clear o1 o2 o3 o4
        by_cases hlt2 : k < 8 * s.size
        · obtain ⟨h, rfl, _⟩ := unhide hA (by omega)
          have hC := plain.crcB_lt wd mix (plain.startOf wd) (L.take k) (unhide HM) (by unfold plain.startOf; have := Nat.two_pow_pos wd; omega)
          have hnext := hide (crc_next mix (plain.startOf wd) L k (by rw [unhide Hlen]; exact hlt2))
          have HC := hide hC
          clear hC
          generalize plain.crcB mix (plain.startOf wd) (L.take k) = C at *
          have c1 := row_cell (k := 0) hw0 hrow
          have c2 : wr.cell? ⟨h, k, none⟩ = some (.bool (L[k]?.getD false)) := by
            rw [hbits.cellAt k (by omega), bits_at L k (by rw [unhide Hlen]; exact hlt2)]
          generalize L[k]?.getD false = b at *
          have HR := hide hrow
          have HBI := hide hbits
          have HBL := hide hbel
          clear hrow hbits hbel hA
          go_wp2_with fail
          go_quiet (fail)
          generalize hout : (!(tb C 0 == b)) = out
          have Hout := hide hout
          clear hout c1 c2
          go_wp2_with (at_make; refine wpList_make_full _ rfl _ _ 188 rfl B 4 i0 (.bool false) 1 Tryz.underlying188 hi hz0 hz1 .i64 .i64 _ _ wd rfl rfl rfl rfl (by rw [hz2]; omega) (by unfold maxLen; omega) (by simpa using hsz2) ?_; intro w3 hown3 hgrow3)
          obtain ⟨g2, hg2⟩ : ∃ g2, g2 = wr.heap.size := ⟨_, rfl⟩
          simp only [World.heap_drewN] at hown3
          rw [← hg2] at hown3 ⊢
          have lg := (own_ge (unhide HR)).2
          have lh : h < wr.heap.size := ((unhide HBI).lt h rfl).2
          have n1 : w3.ownsRow B 4 1 (sl g2 wd) wd (partL wd (plain.stepB mix C b) 0) := by
            rw [← partL_zero]
            rw [show (Value.bool false).cells = #[.bool false] from rfl, toList_madeCells_one, Nat.mul_one] at hown3
            exact hown3
          have n2 := (own_drewN (unhide HR) nq).kept hgrow3 (Or.inr (by simp [Value.ownBlock]))
          have n3 := (own_drewN (unhide HBI) nq).kept hgrow3 (Or.inr (by simp [Value.ownBlock]))
          have n4 : Below B w w3 := (below_drewN (unhide HBL) nq).grown hgrow3 (by simpa using hsz2) (fun k hk => by cases hk)
          have n5 : B ≤ w3.heap.size := by have := hgrow3.size; simp at this; omega
          have dg : g ≠ g2 := by omega
          have dh : h ≠ g2 := by omega
          have Dg := hide dg
          have Dh := hide dh
          clear hown3 hgrow3 HR HBI HBL hg2 lg lh dg dh hsz2
          go_loopw [12] (fun i wr => ∃ q : Nat, q ≤ wd ∧ i = .int .i64 q ∧ wr.ownsRow B 4 1 (sl g2 wd) wd (partL wd (plain.stepB mix C b) q) ∧ wr.ownsRow B 4 1 (sl g wd) wd (rowL wd C) ∧
            wr.ownsRow B 4 1 (.slice (some ⟨h, 0, none⟩) (8 * s.size) cap) (8 * s.size) (L.map Value.bool) ∧ Below B w wr ∧ B ≤ wr.heap.size) (fun i _ => wd - (intOf i).toNat)
          case atStart => exact ⟨0, Nat.zero_le _, rfl, n1, n2, n3, n4, n5⟩
          case round =>
            obtain ⟨q, hq, rfl, m1, m2, m3, m4, m5⟩ := hrel
            clear n1 n2 n3 n4 n5
            by_cases hq2 : q < wd
            · have hqt : q < t.size := by rw [unhide Ht]; exact hq2
              have NB := hide (next_bit wd mix C q b ((t[q].toNat : Int) == 49) (unhide HC) hq2 (unhide HTB q hqt))
              rw [unhide Hout] at NB
              have c4 := part_cell hq2 m1
              have c5 := m1.frozenAt q
              have M0 := hide (own_ge m1)
              have P := hide (fun x hx => part_put (x := x) hq2 m1 hx)
              have K2 := hide (fun x => ownsRow_setCell_other m2 (a := ⟨g2, q, none⟩) (by simp [Value.ownBlock]; exact unhide Dg) (.bool x))
              have K3 := hide (fun x => ownsRow_setCell_other m3 (a := ⟨g2, q, none⟩) (by simp [Value.ownBlock]; exact unhide Dh) (.bool x))
              have K4 := hide m4
              generalize hNN : plain.stepB mix C b = NN at *
              have HNN := hide hNN
              clear hNN
              by_cases hq3 : q + 1 < wd
              · have c3 := row_cell hq3 m2
                clear m1 m2 m3 m4
                cases out
                all_goals
                  go_wp2
                  go_roundw
                  case rel => exact ⟨q + 1, by omega, by go_num, unhide P _ (by rw [← unhide NB]; cases tb C (q + 1) <;> cases ((t[q].toNat : Int) == 49) <;> simp [hq3]), unhide K2 _, unhide K3 _, (unhide K4).setCell (unhide M0).1 _, by simp; omega⟩
                  case measure => simp [intOf]; omega
              · clear m1 m2 m3 m4
                cases out
                all_goals
                  go_wp2
                  go_roundw
                  case rel => exact ⟨q + 1, by omega, by go_num, unhide P _ (by rw [← unhide NB]; cases tb C (q + 1) <;> cases ((t[q].toNat : Int) == 49) <;> simp [hq3]), unhide K2 _, unhide K3 _, (unhide K4).setCell (unhide M0).1 _, by simp; omega⟩
                  case measure => simp [intOf]; omega
            · have e : wd = q := by omega
              subst e
              rw [partL_full, ← unhide hnext] at m1
              have M1 := hide m1
              have M3 := hide m3
              have M4 := hide m4
              clear m1 m2 m3 m4
              go_wp2
              go_roundw
              case rel => exact ⟨k + 1, g2, by omega, by go_num, rfl, unhide M1, unhide M3, unhide M4, m5⟩
              case measure => simp [intOf]; omega
        · have e : k = 8 * s.size := by omega
          rw [List.take_of_length_le (by rw [unhide Hlen]; omega), unhide HL] at hrow
          have hC := plain.crcB_lt wd mix (plain.startOf wd) (plain.bitsOf s.data.toList) (unhide HM) (by unfold plain.startOf; have := Nat.two_pow_pos wd; omega)
          have hle : (2 : Nat) ^ wd ≤ 256 := Nat.pow_le_pow_right (n := 2) (by decide) hw
          obtain ⟨C, hCe⟩ : ∃ C, C = plain.crcB mix (plain.startOf wd) (plain.bitsOf s.data.toList) := ⟨_, rfl⟩
          rw [← hCe] at hC hrow
          have HCe := hide hCe
          have HC := hide hC
          have HR := hide hrow
          have HBL := hide hbel
          have C0 : C < 256 := by omega
          clear hrow hbits hbel hA hC hle e hCe
          go_wp2_with fail
          go_loop [14, 15] (fun n i => ∃ q : Nat, q ≤ wd ∧ i = .int .i64 ((q : Int) - 1) ∧ n = .int .i64 (C / 2 ^ q : Nat)) (fun _ i => (intOf i + 1).toNat)
          case atStart => exact ⟨wd, Nat.le_refl _, rfl, by rw [Nat.div_eq_of_lt (unhide HC)]; rfl⟩
          case round =>
            obtain ⟨q, hq, rfl, rfl⟩ := hrel
            have hQ : C / 2 ^ q < 256 := Nat.lt_of_le_of_lt (Nat.div_le_self _ _) C0
            match q, hq, hQ with
            | 0, hq, hQ =>
              go_wp2
              go_ret
              exact ⟨ret_int (by first | (rw [← unhide HCe]; done) | (rw [← unhide HCe]; simp)), unhide HBL⟩
            | q + 1, hq, hQ =>
              have hst := hide (plain.top_step C q)
              have cc := row_cell (k := q) (by omega) (unhide HR)
              have eq1 : (((q + 1 : Nat) : Int) - 1) = (q : Int) := by omega
              rw [eq1]
              generalize C / 2 ^ (q + 1) = Y at *
              unfold tb at cc
              cases hbit : C.testBit q
              all_goals
                rw [hbit] at cc hst
                have Hbit := hide hbit
                clear hbit
                go_wp2
                go_round
                case rel => exact ⟨q, by omega, rfl, by rw [← unhide hst]; simp⟩
                case measure => first | (simp [intOf]; done) | (simp [intOf]; omega)

set_option maxHeartbeats 400000 in
set_option maxRecDepth 100000 in
theorem taps_3 (w : World) : Calls Tryz.prog 110 #[.int .i64 (3 : Nat)] w fun e w' => e = .returned (.string ⟨#[48, 49, 49]⟩) ∧ w' = w := by
  go_enter Tryz.func110, Tryz.ntmps110
  go_wp2
  go_ret
  exact ⟨rfl, rfl⟩
set_option maxHeartbeats 400000 in
set_option maxRecDepth 100000 in
theorem taps_7 (w : World) : Calls Tryz.prog 110 #[.int .i64 (7 : Nat)] w fun e w' => e = .returned (.string ⟨#[49, 48, 48, 49, 49, 49, 49]⟩) ∧ w' = w := by
  go_enter Tryz.func110, Tryz.ntmps110
  go_wp2
  go_ret
  exact ⟨rfl, rfl⟩
set_option maxHeartbeats 400000 in
set_option maxRecDepth 100000 in
theorem taps_8 (w : World) : Calls Tryz.prog 110 #[.int .i64 (8 : Nat)] w fun e w' => e = .returned (.string ⟨#[48, 48, 48, 48, 48, 49, 49, 49]⟩) ∧ w' = w := by
  go_enter Tryz.func110, Tryz.ntmps110
  go_wp2
  go_ret
  exact ⟨rfl, rfl⟩

theorem rcheck_any (wd : Nat) (s : ByteArray) (w : World) (hs : s.size ≤ 1048576) (h : wd = 3 ∨ wd = 7 ∨ wd = 8) :
    Calls Tryz.prog 83 #[.int .i64 wd, .string s] w fun e w' => e = .returned (.int .i64 (plain.checkOf wd s.data.toList : Nat)) ∧ Below w.heap.size w w' := by
  rcases h with rfl | rfl | rfl
  · exact rcheck_gen 3 6 ⟨#[48, 49, 49]⟩ s w hs (by decide) (by decide) (by decide) rfl (by decide) taps_3
  · exact rcheck_gen 7 121 ⟨#[49, 48, 48, 49, 49, 49, 49]⟩ s w hs (by decide) (by decide) (by decide) rfl (by decide) taps_7
  · exact rcheck_gen 8 224 ⟨#[48, 48, 48, 48, 48, 49, 49, 49]⟩ s w hs (by decide) (by decide) (by decide) rfl (by decide) taps_8

end Go.Proofs.YtgpojbgjfibblabGreat.bits
