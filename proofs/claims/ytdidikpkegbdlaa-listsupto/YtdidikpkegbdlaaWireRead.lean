/-
  The walk of the program's ReadHeader (package wire).
  Conditions stand in each theorem.
-/
import Derived.Test.YtdidikpkegbdlaaWireHead
namespace Go.Proofs.Ytdidikpkegbdlaa.texts
open Go.RowKit
set_option linter.unusedVariables false
attribute [local go_sem ↓] Go.wp_at_zero Go.wp_at_succ
attribute [local go_sem] bs_size be_length bs_append List.length_append bs_extract bs_list

/-- a packet without a body -/
def bodyless (p : Pk) : Pk := { p with body := [] }

theorem cut_cut (l : List UInt8) (n m a b : Nat) (h : m + b ≤ n) : (((l.take n).drop m).take b).drop a = (l.take (m + b)).drop (m + a) := by
  rw [List.take_drop, List.take_take, List.drop_drop, Nat.min_eq_left h]
theorem cut_cut0 (l : List UInt8) (n m b : Nat) (h : m + b ≤ n) : ((l.take n).drop m).take b = (l.take (m + b)).drop m := by
  rw [List.take_drop, List.take_take, Nat.min_eq_left h]
theorem take_take' (l : List UInt8) (n m : Nat) (h : m ≤ n) : (l.take n).take m = l.take m := by
  rw [List.take_take, Nat.min_eq_left h]
theorem one_cut (l : List UInt8) (k : Nat) (h : k < l.length) : (l.take (k + 1)).drop k = [l[k]] := by
  rw [List.take_succ_eq_append_getElem h, List.drop_append_of_le_length (by simp; omega), List.drop_of_length_le (by simp; omega)]
  rfl
theorem num_one (b : UInt8) : numOf [b] = b.toNat := by simp [numOf]

/-- the header that a text tells, cut by cut -/
def headP (l : List UInt8) (f : Nat) : Pk :=
  { src := numOf (l.take 4), dst := numOf ((l.take 8).drop 4), port := numOf ((l.take 10).drop 8), seq := numOf ((l.take 12).drop 10), time := numOf ((l.take 16).drop 12), id := numOf ((l.take 18).drop 16), flags := f, body := [] }
theorem headP_eq (l : List UInt8) (h : 18 < l.length) : headP l l[18].toNat = bodyless (seemP l) := by
  unfold headP bodyless seemP withP
  rw [cut_cut0 l 19 10 2 (by decide), cut_cut l 19 10 2 6 (by decide), cut_cut l 19 10 6 8 (by decide), cut_cut l 19 10 8 9 (by decide), take_take' l 10 4 (by decide), take_take' l 10 8 (by decide), take_take' l 10 10 (by decide), one_cut l 18 h, num_one]

set_option maxHeartbeats 2000000 in
set_option maxRecDepth 100000 in
theorem wreadHeader_any (l : List UInt8) (w : World) (h : 19 ≤ l.length) (hm : l.length ≤ 9223372036854775807) :
    Calls Try.prog 74 #[.string (bs l)] w fun e w' => e = .returned (.agg (bodyless (seemP l)).cells) ∧ Below w.heap.size w w' := by
  have h18 : 18 < l.length := by omega
  have hlt : ((l[18].toNat : Nat) : Int) < 256 := by have := l[18].toNat_lt; omega
  have hb : ((bs l)[18]'(by rw [bs_size]; exact h18)).toNat = l[18].toNat := rfl
  have hs18 : 18 < (bs l).size := by rw [bs_size]; omega
  have e3 : IntKind.u16.wrap ((numOf ((l.take 10).drop 8) : Nat) : Int) = (numOf ((l.take 10).drop 8) : Nat) := wrap16 (numOf_lt' 2 (by simp; omega))
  have e4 : IntKind.u16.wrap ((numOf ((l.take 12).drop 10) : Nat) : Int) = (numOf ((l.take 12).drop 10) : Nat) := wrap16 (numOf_lt' 2 (by simp; omega))
  have e6 : IntKind.u16.wrap ((numOf ((l.take 18).drop 16) : Nat) : Int) = (numOf ((l.take 18).drop 16) : Nat) := wrap16 (numOf_lt' 2 (by simp; omega))
  have g1 : (8 : Int) ≤ (l.length : Int) := by omega
  have g2 : (10 : Int) ≤ (l.length : Int) := by omega
  have g3 : (12 : Int) ≤ (l.length : Int) := by omega
  have g4 : (16 : Int) ≤ (l.length : Int) := by omega
  have g5 : (18 : Int) ≤ (l.length : Int) := by omega
  have g6 : (4 : Int) ≤ (l.length : Int) := by omega
  rw [← headP_eq l h18]
  generalize l[18].toNat = F at *
  go_enter Try.func74, Try.ntmps74
  go_wp2_with ((go_at_call 82; refine (wnumber_any _ _ (by rw [bs_size]; simp; omega)).mono ?_; rintro e w' ⟨rfl, rfl⟩))
  exact bodyPost_ret (v := .agg (headP l F).cells) (by simp [results, Try.results74, go_sem, headP, Pk.cells, bs]) rfl ⟨rfl, ((Below.refl _ _).alloc (Nat.le_refl _) _).alloc (by simp) _⟩

end Go.Proofs.Ytdidikpkegbdlaa.texts
