/-
  The walks of the program's Write and Read (packages packet and gist). A text whose last two bytes are the sum of what stands ahead is just the text of the packet that it seems to tell.
  Conditions stand in each theorem.
-/
import Derived.Test.YtgpojbgjfibblabGreatWireRead
import Derived.Test.YtgpojbgjfibblabGreatJoinListAids
namespace Go.Proofs.YtgpojbgjfibblabGreat.texts
open Go.RowKit
set_option linter.unusedVariables false
attribute [local go_sem ↓] Go.wp_at_zero Go.wp_at_succ
attribute [local go_sem] bs_size be_length bs_append List.length_append headL_length restL_length hdrL_length bs_extract bs_list bs_toList

end Go.Proofs.YtgpojbgjfibblabGreat.texts

namespace Go.Proofs.YtgpojbgjfibblabGreat.texts
set_option linter.unusedVariables false

theorem snoc_cases (l : List UInt8) (k : Nat) (h : l.length = k + 1) : ∃ m b, l = m ++ [b] ∧ m.length = k := by
  refine ⟨l.take k, l[k], ?_, by simp; omega⟩
  rw [← List.take_succ_eq_append_getElem (by omega), List.take_of_length_le (by omega)]
theorem be_numOf (k : Nat) : ∀ l : List UInt8, l.length = k → be (numOf l) k = l := by
  induction k with
  | zero => intro l h; rw [List.length_eq_zero_iff.1 h]; rfl
  | succ k ih =>
    intro l h
    obtain ⟨m, b, rfl, hm⟩ := snoc_cases l k h
    have hb := b.toNat_lt
    rw [numOf_snoc]
    have e1 : (256 * numOf m + b.toNat) / 256 = numOf m := by omega
    have e2 : (256 * numOf m + b.toNat) % 256 = b.toNat := by omega
    simp only [be]
    rw [e1, e2, ih m hm]
    simp
theorem glue (l : List UInt8) (i j : Nat) (h : i ≤ j) : l.take i ++ (l.take j).drop i = l.take j := by
  have e := List.take_append_drop i (l.take j)
  rwa [List.take_take, Nat.min_eq_left h] at e
theorem cut_len (l : List UInt8) (i j : Nat) (h : j ≤ l.length) : ((l.take j).drop i).length = j - i := by simp; omega

theorem bare_seem (l : List UInt8) (h : l.length = 22 + at19 l) : bareL (seemP l) = l.take (20 + at19 l) := by
  have h19 : 19 < l.length := by omega
  have hb : at19 l = l[19].toNat := by unfold at19; rw [List.getElem?_eq_getElem h19]; rfl
  have hblen : (seemP l).body.length = at19 l := by simp [seemP, withP]; omega
  have e0 : (seemP l).src = numOf (l.take 4) := by unfold seemP withP; simp only [take_take' l 10 4 (by decide)]
  have e1 : (seemP l).dst = numOf ((l.take 8).drop 4) := by unfold seemP withP; simp only [take_take' l 10 8 (by decide)]
  have e2 : (seemP l).port = numOf ((l.take 10).drop 8) := by unfold seemP withP; simp only [take_take' l 10 10 (by decide)]
  have e3 : (seemP l).seq = numOf ((l.take 12).drop 10) := by unfold seemP withP; simp only [cut_cut0 l 19 10 2 (by decide)]
  have e4 : (seemP l).time = numOf ((l.take 16).drop 12) := by unfold seemP withP; simp only [cut_cut l 19 10 2 6 (by decide)]
  have e5 : (seemP l).id = numOf ((l.take 18).drop 16) := by unfold seemP withP; simp only [cut_cut l 19 10 6 8 (by decide)]
  have e6 : (seemP l).flags = numOf ((l.take 19).drop 18) := by unfold seemP withP; simp only [cut_cut l 19 10 8 9 (by decide)]
  have e7 : (seemP l).body = (l.take (20 + at19 l)).drop 20 := rfl
  have e8 : be (seemP l).body.length 1 = (l.take 20).drop 19 := by
    rw [hblen, hb, wbe1 _ l[19].toNat_lt, one_cut l 19 h19]
    simp
  unfold bareL hdrL headL restL
  rw [e8, e0, e1, e2, e3, e4, e5, e6, e7]
  rw [be_numOf 4 _ (by simp; omega), be_numOf 4 _ (by rw [cut_len _ _ _ (by omega)]), be_numOf 2 _ (by rw [cut_len _ _ _ (by omega)]), be_numOf 2 _ (by rw [cut_len _ _ _ (by omega)]), be_numOf 4 _ (by rw [cut_len _ _ _ (by omega)]), be_numOf 2 _ (by rw [cut_len _ _ _ (by omega)]), be_numOf 1 _ (by rw [cut_len _ _ _ (by omega)])]
  rw [glue l 4 8 (by decide), glue l 8 10 (by decide)]
  simp only [← List.append_assoc]
  rw [glue l 10 12 (by decide), glue l 12 16 (by decide), glue l 16 18 (by decide), glue l 18 19 (by decide), glue l 19 20 (by decide), glue l 20 _ (by omega)]

theorem text_seem (l : List UInt8) (h : l.length = 22 + at19 l) : textL (seemP l) = l ↔ l.drop (20 + at19 l) = be (plain.sumOf (l.take (20 + at19 l))) 2 := by
  unfold textL
  rw [bare_seem l h]
  constructor
  · intro e
    have e2 : l.take (20 + at19 l) ++ be (plain.sumOf (l.take (20 + at19 l))) 2 = l.take (20 + at19 l) ++ l.drop (20 + at19 l) := by rw [List.take_append_drop]; exact e
    exact (List.append_cancel_left e2).symm
  · intro e
    rw [← e, List.take_append_drop]

theorem read_ends (l : List UInt8) (h : l.length = 22 + at19 l) (hl : at19 l ≤ 100) :
    (l.drop (20 + at19 l) = be (plain.sumOf (l.take (20 + at19 l))) 2 → readE l = 0 ∧ readR l = seemP l) ∧ (l.drop (20 + at19 l) ≠ be (plain.sumOf (l.take (20 + at19 l))) 2 → readE l = 5 ∧ readR l = zeroP) := by
  have e2 : readE l = if textL (seemP l) = l then 0 else 5 := by
    unfold readE
    rw [if_neg (by omega), if_neg (by omega), if_neg (by omega)]
  have iff := text_seem l h
  unfold readR
  rw [e2]
  constructor
  · intro h1; rw [if_pos (iff.2 h1)]; exact ⟨rfl, if_pos rfl⟩
  · intro h1; rw [if_neg (fun e => h1 (iff.1 e))]; exact ⟨rfl, if_neg (by decide)⟩

end Go.Proofs.YtgpojbgjfibblabGreat.texts
