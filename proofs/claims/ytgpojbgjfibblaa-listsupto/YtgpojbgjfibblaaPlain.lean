/-
  Plain arithmetic of low bits: the number that k bits tell, as the document's answer and as the program reckon it.
  No condition but those in each theorem.
-/
import Derived.Laws.BitsAllLaws
namespace Go.Proofs.Ytgpojbgjfibblaa.plain
set_option linter.unusedVariables false

/-- the number of width w that k low bits tell -/
def lowV (wd k : Nat) (r p b : Int) : Int := (r - p + (b - (r - p)) % 2 ^ k) % 2 ^ wd

theorem two_pos (k : Nat) : (0 : Int) < 2 ^ k := Int.pow_pos (by decide)

theorem two_dvd {k n : Nat} (h : k ≤ n) : (2 ^ k : Int) ∣ 2 ^ n := by
  obtain ⟨d, rfl⟩ := Nat.exists_eq_add_of_le h
  exact ⟨2 ^ d, by rw [Int.pow_add]⟩

theorem two_le {k n : Nat} (h : k ≤ n) : (2 ^ k : Int) ≤ 2 ^ n :=
  Int.le_of_dvd (two_pos n) (two_dvd h)

theorem emod_emod_two {k n : Nat} (h : k ≤ n) (x : Int) : x % 2 ^ n % 2 ^ k = x % 2 ^ k :=
  Int.emod_emod_of_dvd x (two_dvd h)

/-- the document's answer is that number -/
theorem low_ref (wd k : Nat) (r p b : Int) (hk : k ≤ wd) (hb0 : 0 ≤ b) (hb1 : b < 2 ^ k) :
    (let f := (r - p) % 2 ^ wd
     let v := f - f % 2 ^ k + b
     (if v < f then v + 2 ^ k else v) % 2 ^ wd) = lowV wd k r p b := by
  simp only [lowV]
  have hf : (r - p) % 2 ^ wd % 2 ^ k = (r - p) % 2 ^ k := emod_emod_two hk _
  have h2 := two_pos k
  have hm0 := Int.emod_nonneg (r - p) (Int.ne_of_gt h2)
  have hm1 := Int.emod_lt_of_pos (r - p) h2
  have hd : (r - p + (b - (r - p)) % 2 ^ k) % 2 ^ wd = ((r - p) % 2 ^ wd + (b - (r - p)) % 2 ^ k) % 2 ^ wd := by
    rw [Int.emod_add_emod]
  have hs : (b - (r - p)) % 2 ^ k = (b - (r - p) % 2 ^ k) % 2 ^ k := by
    rw [Int.sub_emod_emod]
  rw [hd, hs, hf]
  generalize (r - p) % 2 ^ k = m at *
  generalize (r - p) % 2 ^ wd = f at *
  generalize (2 : Int) ^ k = c at *
  by_cases h : b < m
  · have e : (b - m) % c = b - m + c := by
      rw [← Int.add_emod_right, Int.emod_eq_of_lt (by omega) (by omega)]
    rw [e, if_pos (by omega)]
    congr 1; omega
  · have e : (b - m) % c = b - m := Int.emod_eq_of_lt (by omega) (by omega)
    rw [e, if_neg (by omega)]
    congr 1; omega

theorem lowV_nonneg (wd k : Nat) (r p b : Int) : 0 ≤ lowV wd k r p b := Int.emod_nonneg _ (Int.ne_of_gt (two_pos wd))
theorem lowV_lt (wd k : Nat) (r p b : Int) : lowV wd k r p b < 2 ^ wd := Int.emod_lt_of_pos _ (two_pos wd)

/-- the program's way, in 64 bits -/
theorem low_go (wd k : Nat) (r p b : Int) (hk : k ≤ wd) (hw : wd ≤ 64) :
    (let f := (r - p) % 2 ^ 64
     ((f + (b - f) % 2 ^ 64 % 2 ^ k) % 2 ^ 64) % 2 ^ wd) = lowV wd k r p b := by
  simp only [lowV]
  rw [emod_emod_two hw, emod_emod_two (show k ≤ 64 by omega)]
  have hs : (b - (r - p) % 2 ^ 64) % 2 ^ k = (b - (r - p)) % 2 ^ k := by
    rw [← Int.sub_emod_emod, emod_emod_two (show k ≤ 64 by omega), Int.sub_emod_emod]
  rw [hs, ← Int.emod_add_emod, emod_emod_two hw, Int.emod_add_emod]

/-- a number is one that k bits tell just if the way to it is below 2 to the power k -/
theorem fits_iff (wd k : Nat) (r p v : Int) (hk : k ≤ wd) (hv0 : 0 ≤ v) (hv1 : v < 2 ^ wd) :
    lowV wd k r p (v % 2 ^ k) = v ↔ (v - (r - p)) % 2 ^ wd < 2 ^ k := by
  have hkp := two_pos k
  have hwp := two_pos wd
  have e : (v % 2 ^ k - (r - p)) % 2 ^ k = (v - (r - p)) % 2 ^ k := Int.emod_sub_emod _ _ _
  have hle := two_le hk
  have hb := Int.emod_lt_of_pos (v - (r - p)) hkp
  have hb0 := Int.emod_nonneg (v - (r - p)) (Int.ne_of_gt hkp)
  unfold lowV
  rw [e]
  constructor
  · intro h
    have h1 : (v - (r - p)) % 2 ^ wd = (v - (r - p)) % 2 ^ k % 2 ^ wd := by
      conv => lhs; rw [← h]
      rw [Int.emod_sub_emod]
      congr 1; omega
    rw [h1, Int.emod_eq_of_lt hb0 (by omega)]
    exact hb
  · intro h
    have h1 : (v - (r - p)) % 2 ^ k = (v - (r - p)) % 2 ^ wd := by
      rw [← emod_emod_two hk, Int.emod_eq_of_lt (Int.emod_nonneg _ (Int.ne_of_gt hwp)) h]
    rw [h1, Int.add_emod_emod]
    rw [show r - p + (v - (r - p)) = v by omega]
    exact Int.emod_eq_of_lt hv0 hv1

end Go.Proofs.Ytgpojbgjfibblaa.plain
