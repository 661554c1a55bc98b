/-
  Plain functions on lists of frames: the length that is told, Join, the first frame of a text, Split.
  No condition but those in each theorem.
-/
import Derived.Test.YtgpojbgjfibblaaTexts
namespace Go.Proofs.Ytgpojbgjfibblaa.texts
set_option linter.unusedVariables false

/-- a length, as it is told -/
def toldL (n : Nat) : List UInt8 := if n < 128 then be n 1 else be (32768 + n) 2
theorem toldL_length (n : Nat) : (toldL n).length = if n < 128 then 1 else 2 := by
  unfold toldL; split <;> simp [be_length]
theorem toldL_le (n : Nat) : (toldL n).length ≤ 2 := by rw [toldL_length]; split <;> omega
theorem toldL_pos (n : Nat) : 1 ≤ (toldL n).length := by rw [toldL_length]; split <;> omega

/-- frames, one behind the other -/
def joinL : List (List UInt8) → List UInt8
  | [] => []
  | f :: r => toldL f.length ++ (f ++ joinL r)
theorem joinL_snoc (l : List (List UInt8)) (f : List UInt8) : joinL (l ++ [f]) = joinL l ++ (toldL f.length ++ f) := by
  induction l with
  | nil => simp [joinL]
  | cons g r ih => simp [joinL, ih]
theorem joinL_length (l : List (List UInt8)) (h : ∀ f ∈ l, f.length ≤ 300) : (joinL l).length ≤ 302 * l.length := by
  induction l with
  | nil => simp [joinL]
  | cons f r ih =>
    have h1 := h f (by simp)
    have h2 := ih (fun g hg => h g (by simp [hg]))
    have h3 := toldL_le f.length
    simp [joinL]
    omega

/-- what Join answers -/
def longOne (l : List (List UInt8)) : Bool := l.any fun f => decide (300 < f.length)
def joinE (l : List (List UInt8)) : Int := if 8 < l.length then 3 else if longOne l = true then 2 else 0
def joinR (l : List (List UInt8)) : List UInt8 := if joinE l = 0 then joinL l else []

/-- does a text begin with the length n and so many bytes? -/
def begins (s : List UInt8) (n : Nat) : Bool := decide (n ≤ 300) && decide (n < s.length) && decide ((toldL n).length + n ≤ s.length) && decide (s.take (toldL n).length = toldL n)
/-- the first frame of a text, by the least length with which it begins, tried from k on, m of them -/
def firstFrom (s : List UInt8) : Nat → Nat → Option Nat
  | _, 0 => none
  | k, m + 1 => if begins s k = true then some k else firstFrom s (k + 1) m
def firstN (s : List UInt8) : Option Nat := firstFrom s 0 301
def frameOf (s : List UInt8) (n : Nat) : List UInt8 := (s.drop (toldL n).length).take n
def restOf (s : List UInt8) (n : Nat) : List UInt8 := s.drop ((toldL n).length + n)

/-- the frames of a text, at most m of them -/
def splitL : Nat → List UInt8 → Option (List (List UInt8))
  | m, s => if s = [] then some [] else
    match firstN s with
    | none => none
    | some n => match m with
      | 0 => none
      | m + 1 => (splitL m (restOf s n)).map (frameOf s n :: ·)
def splitE (s : List UInt8) : Int := match splitL 8 s with | some _ => 0 | none => 4
def splitR (s : List UInt8) : List (List UInt8) := (splitL 8 s).getD []

theorem firstFrom_begins (s : List UInt8) (k m n : Nat) (h : firstFrom s k m = some n) : begins s n = true := by
  induction m generalizing k with
  | zero => simp [firstFrom] at h
  | succ m ih =>
    unfold firstFrom at h
    split at h
    · rename_i hb
      simp at h
      subst h
      exact hb
    · exact ih _ h
theorem begins_facts {s : List UInt8} {n : Nat} (h : begins s n = true) : n ≤ 300 ∧ n < s.length ∧ (toldL n).length + n ≤ s.length ∧ s.take (toldL n).length = toldL n := by
  unfold begins at h
  simp only [Bool.and_eq_true, decide_eq_true_eq] at h
  exact ⟨h.1.1.1, h.1.1.2, h.1.2, h.2⟩
theorem begins_mk {s : List UInt8} {n : Nat} (h1 : n ≤ 300) (h2 : n < s.length) (h3 : (toldL n).length + n ≤ s.length) (h4 : s.take (toldL n).length = toldL n) : begins s n = true := by
  unfold begins; simp [h1, h2, h3, h4]

end Go.Proofs.Ytgpojbgjfibblaa.texts
