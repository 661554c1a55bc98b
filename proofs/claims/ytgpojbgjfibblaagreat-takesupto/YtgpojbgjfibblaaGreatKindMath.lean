/-
  The kind that says least: as the program and as the document reckon it.
  No condition but those in each theorem.
-/
import Derived.Test.YtgpojbgjfibblaaGreatRefState
namespace Go.Proofs.YtgpojbgjfibblaaGreat.texts
open Go.RowKit
set_option linter.unusedVariables false

theorem fit4_8 {v r : Nat} (h : bits.fitR 16 v r 4 1 = true) : bits.fitR 16 v r 8 1 = true := by
  have c4 : bits.cnt 4 16 = 16 := by decide
  have c8 : bits.cnt 8 16 = 256 := by decide
  unfold bits.fitR at *
  rw [c4] at h
  rw [c8]
  simp only [decide_eq_true_eq] at *
  omega
theorem fit_self16 (v : Nat) : bits.fitR 16 v v 8 128 = true := by
  have c8 : bits.cnt 8 16 = 256 := by decide
  unfold bits.fitR
  rw [c8]
  simp only [decide_eq_true_eq]
  refine ⟨by omega, ?_⟩
  rw [show (v : Int) - (v - 128) = 128 by omega]
  decide
theorem fit_self32 (v : Nat) : bits.fitR 32 v v 8 128 = true := by
  have c8 : bits.cnt 8 32 = 256 := by decide
  unfold bits.fitR
  rw [c8]
  simp only [decide_eq_true_eq]
  refine ⟨by omega, ?_⟩
  rw [show (v : Int) - (v - 128) = 128 by omega]
  decide
theorem tiny_short {n r : St} (h : tinyB n r = true) : shortB n r = true := by
  obtain ⟨h1, h2, h3, h4, h5⟩ := (tinyB_iff n r).1 h
  refine (shortB_iff n r).2 ⟨fit4_8 h1, ?_, ?_, h2, h5⟩
  · rw [h3]; exact fit_self16 _
  · rw [h4]; exact fit_self32 _
theorem needs_is (n r : St) : needsN n r = if tinyB n r = true then 0 else if shortB n r = true then 1 else 2 := by
  by_cases ht : tinyB n r = true
  · rw [if_pos ht]
    obtain ⟨h1, h2, h3, h4, h5⟩ := (tinyB_iff n r).1 ht
    unfold needsN
    rw [if_pos ⟨h2, h5⟩, if_pos ⟨h3, h4, h1⟩]
  · rw [if_neg ht]
    by_cases hs : shortB n r = true
    · rw [if_pos hs]
      obtain ⟨h1, h2, h3, h4, h5⟩ := (shortB_iff n r).1 hs
      unfold needsN
      rw [if_pos ⟨h4, h5⟩, if_neg (fun e => ht ((tinyB_iff n r).2 ⟨e.2.2, h4, e.1, e.2.1, h5⟩)), if_pos ⟨h1, h2, h3⟩]
    · rw [if_neg hs]
      unfold needsN
      by_cases hc : n.stride = r.stride ∧ n.flags = r.flags
      · rw [if_pos hc, if_neg (fun e => ht ((tinyB_iff n r).2 ⟨e.2.2, hc.1, e.1, e.2.1, hc.2⟩)), if_neg (fun e => hs ((shortB_iff n r).2 ⟨e.1, e.2.1, e.2.2, hc.1, hc.2⟩))]
      · rw [if_neg hc]

/-- the greatest need of a list -/
def mostN (n : St) (l : List St) : Nat := l.foldl (fun k r => max k (needsN n r)) 0
theorem most_from (n : St) (l : List St) : ∀ k, l.foldl (fun k r => max k (needsN n r)) k = max k (mostN n l) := by
  induction l with
  | nil => intro k; simp [mostN]
  | cons r l ih =>
    intro k
    unfold mostN
    rw [List.foldl_cons, List.foldl_cons, ih, ih]
    omega
theorem most_cons (n r : St) (l : List St) : mostN n (r :: l) = max (needsN n r) (mostN n l) := by
  rw [mostN, List.foldl_cons, most_from]; omega
theorem most_append (n : St) (l m : List St) : mostN n (l ++ m) = max (mostN n l) (mostN n m) := by
  rw [mostN, List.foldl_append, most_from]; rfl
theorem most_reverse (n : St) (l : List St) : mostN n l.reverse = mostN n l := by
  induction l with
  | nil => rfl
  | cons r l ih =>
    rw [List.reverse_cons, most_append, ih, most_cons, most_cons]
    simp [mostN]
    omega
theorem most_le (n : St) (l : List St) : mostN n l ≤ 2 := foldl_max_le _ _ _ (by omega)
theorem least_most (c : Cx) (n : St) : leastN c n = mostN n c.sts := rfl
theorem most_snoc (n : St) (l : List St) (j : Nat) (h : j < l.length) : mostN n (l.take (j + 1)) = max (mostN n (l.take j)) (needsN n l[j]) := by
  rw [List.take_add_one, List.getElem?_eq_getElem h, most_append]
  simp [mostN]
theorem most_ge (n : St) (l : List St) (j : Nat) (h : j < l.length) : needsN n l[j] ≤ mostN n l := by
  have e : mostN n l = max (mostN n (l.take (j + 1))) (mostN n (l.drop (j + 1))) := by rw [← most_append, List.take_append_drop]
  rw [most_snoc n l j h] at e
  omega

end Go.Proofs.YtgpojbgjfibblaaGreat.texts
