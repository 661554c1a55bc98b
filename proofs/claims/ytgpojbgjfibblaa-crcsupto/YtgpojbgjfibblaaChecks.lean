/-
  Plain arithmetic of checks and sums: bit by bit as shifts and as rows of bits; the sum with its carries at once and at the end.
  No condition but those in each theorem.
-/
import Derived.Laws.BitsAllLaws
namespace Go.Proofs.Ytgpojbgjfibblaa.plain
set_option linter.unusedVariables false

/-- one bit of a text goes into a check -/
def stepB (mix c : Nat) (b : Bool) : Nat := (c / 2) ^^^ (if (c % 2 == 1) != b then mix else 0)
def crcB (mix c : Nat) (l : List Bool) : Nat := l.foldl (stepB mix) c
/-- the bits of a byte, the lowest first -/
def byteBits (x : Nat) : List Bool := (List.range 8).map fun j => x / 2 ^ j % 2 == 1
def bitsOf (l : List UInt8) : List Bool := l.flatMap fun b => byteBits b.toNat

theorem byteBits_length (x : Nat) : (byteBits x).length = 8 := by simp [byteBits]
theorem byteBits_take (x j : Nat) (h : j < 8) : (byteBits x).take (j + 1) = (byteBits x).take j ++ [x / 2 ^ j % 2 == 1] := by
  rw [List.take_succ_eq_append_getElem (by simp [byteBits]; omega)]
  simp [byteBits]
theorem crcB_snoc (mix c : Nat) (l : List Bool) (b : Bool) : crcB mix c (l ++ [b]) = stepB mix (crcB mix c l) b := by
  simp [crcB, List.foldl_append]
theorem crcB_append (mix c : Nat) (l m : List Bool) : crcB mix c (l ++ m) = crcB mix (crcB mix c l) m := by
  simp [crcB, List.foldl_append]
theorem crcB_nil (mix c : Nat) : crcB mix c [] = c := rfl

theorem stepB_lt (n mix c : Nat) (b : Bool) (hm : mix < 2 ^ n) (hc : c < 2 ^ n) : stepB mix c b < 2 ^ n := by
  unfold stepB
  refine Nat.xor_lt_two_pow (by omega) ?_
  split
  · exact hm
  · exact Nat.two_pow_pos n
theorem crcB_lt (n mix c : Nat) (l : List Bool) (hm : mix < 2 ^ n) (hc : c < 2 ^ n) : crcB mix c l < 2 ^ n := by
  induction l generalizing c with
  | nil => exact hc
  | cons b l ih => exact ih _ (stepB_lt n mix c b hm hc)

theorem bitsOf_nil : bitsOf [] = [] := rfl
theorem bitsOf_snoc (l : List UInt8) (b : UInt8) : bitsOf (l ++ [b]) = bitsOf l ++ byteBits b.toNat := by
  simp [bitsOf]
theorem bitsOf_length (l : List UInt8) : (bitsOf l).length = 8 * l.length := by
  induction l with
  | nil => rfl
  | cons b l ih => 
    have e : bitsOf (b :: l) = byteBits b.toNat ++ bitsOf l := by simp [bitsOf]
    rw [e, List.length_append, byteBits_length, ih, List.length_cons]; omega

/-- the low bit that goes out -/
theorem low_xor (c x : Nat) : (c ^^^ x) % 2 = 1 ↔ ((c % 2 == 1) != (x % 2 == 1)) = true := by
  have e := Nat.testBit_xor (x := c) (y := x) (i := 0)
  simp only [Nat.testBit_zero] at e
  rcases Nat.mod_two_eq_zero_or_one c with h | h <;> rcases Nat.mod_two_eq_zero_or_one x with g | g <;> simp [h, g] at e ⊢ <;> omega

theorem stepB_yes (mix c x : Nat) (h : (c ^^^ x) % 2 = 1) : stepB mix c (x % 2 == 1) = (c / 2) ^^^ mix := by
  unfold stepB; rw [if_pos ((low_xor c x).1 h)]
theorem stepB_no (mix c x : Nat) (h : ¬ (c ^^^ x) % 2 = 1) : stepB mix c (x % 2 == 1) = c / 2 := by
  unfold stepB; rw [if_neg (mt (low_xor c x).2 h)]; simp

/-- the bits of a check behind one step -/
theorem stepB_testBit (mix c k : Nat) (b : Bool) : (stepB mix c b).testBit k = (c.testBit (k + 1) != ((c.testBit 0 != b) && mix.testBit k)) := by
  unfold stepB
  rw [Nat.testBit_xor, Nat.testBit_div_two]
  have e : c.testBit 0 = (c % 2 == 1) := by simp [Nat.testBit_zero]; rcases Nat.mod_two_eq_zero_or_one c with h | h <;> simp [h]
  rw [e]
  by_cases h : ((c % 2 == 1) != b) = true
  · rw [if_pos h, h]; cases c.testBit (k + 1) <;> cases mix.testBit k <;> rfl
  · rw [if_neg h]
    have h' : ((c % 2 == 1) != b) = false := by simpa using h
    rw [h']; cases c.testBit (k + 1) <;> simp

/-- the number of a row of bits, from the top on -/
theorem top_step (c k : Nat) : 2 * (c / 2 ^ (k + 1)) + (if c.testBit k then 1 else 0) = c / 2 ^ k := by
  have e : c / 2 ^ (k + 1) = c / 2 ^ k / 2 := by rw [Nat.pow_succ, Nat.div_div_eq_div_mul]
  rw [e, Nat.testBit_eq_decide_div_mod_eq]
  generalize c / 2 ^ k = q
  by_cases h : q % 2 = 1 <;> simp [h] <;> omega

/-- the sum, with all carries put back -/
def fold16 (n : Nat) : Nat := if n = 0 then 0 else (n - 1) % 65535 + 1
theorem fold16_id (n : Nat) (h : n ≤ 65535) : fold16 n = n := by unfold fold16; split <;> omega
theorem fold16_carry (n : Nat) : fold16 (n % 65536 + n / 65536) = fold16 n := by
  unfold fold16
  by_cases h : n = 0
  · subst h; rfl
  · rw [if_neg (by omega), if_neg h]; omega
theorem fold16_le (n : Nat) : fold16 n ≤ 65535 := by unfold fold16; split <;> omega
theorem fold16_add (n d : Nat) : fold16 (fold16 n + d) = fold16 (n + d) := by
  unfold fold16
  by_cases h : n = 0
  · subst h; simp
  · rw [if_neg h, if_neg (by omega), if_neg (by omega)]; omega

/-- what the first k bytes of a text add up to -/
def psum (l : List UInt8) : Nat → Nat
  | 0 => 0
  | k + 1 => psum l k + (if k % 2 = 0 then 256 else 1) * (l[k]?.getD 0).toNat
theorem psum_le (l : List UInt8) (k : Nat) : psum l k ≤ 65280 * k := by
  induction k with
  | zero => simp [psum]
  | succ k ih =>
    have h := (l[k]?.getD 0).toNat_lt
    simp only [psum]
    split <;> omega
theorem psum_even (l : List UInt8) (k : Nat) (h : k % 2 = 0) : psum l (k + 1) = psum l k + 256 * (l[k]?.getD 0).toNat := by
  simp [psum, h]
theorem psum_odd (l : List UInt8) (k : Nat) (h : k % 2 = 1) : psum l (k + 1) = psum l k + (l[k]?.getD 0).toNat := by
  simp [psum, h]
theorem psum_past (l : List UInt8) (k : Nat) (h : l.length ≤ k) : psum l (k + 1) = psum l k := by
  simp [psum, List.getElem?_eq_none h]

/-- the sum of a text, as the document has it -/
def sumOf (l : List UInt8) : Nat := 65535 - fold16 (psum l l.length)

/-- the program's step: the carry goes back at once -/
theorem carry_step (t d : Nat) (ht : t ≤ 65535) (hd : d ≤ 65280) : (t + d) % 65536 + (t + d) / 65536 = fold16 (t + d) := by
  rw [← fold16_carry, fold16_id]
  omega

/-- where a check begins, what is mixed in -/
def startOf (wd : Nat) : Nat := 2 ^ wd - 1
def mixOf (wd : Nat) : Nat := if wd = 3 then 6 else if wd = 7 then 121 else 224
/-- the check of a text -/
def checkOf (wd : Nat) (l : List UInt8) : Nat := crcB (mixOf wd) (startOf wd) (bitsOf l)

end Go.Proofs.Ytgpojbgjfibblaa.plain
