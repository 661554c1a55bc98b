/-
  The walks of configurations: the program's Valid (package config), the law's other.
  Conditions stand in each theorem.
-/
import Derived.Test.YtgpojbgjfibblabGreatStateWalk
namespace Go.Proofs.YtgpojbgjfibblabGreat.texts
open Go.RowKit
set_option linter.unusedVariables false
attribute [local go_sem ↓] Go.wp_at_zero Go.wp_at_succ

theorem retB {a b : Bool} (h : a = b) : Ending.returned (.bool a) = .returned (.bool b) := by rw [h]
/-- is it a configuration? -/
def confB (c k r : Int) : Bool := decide (1 ≤ c ∧ c ≤ 8 ∧ 1 ≤ k ∧ k ≤ 4 ∧ 2 ≤ r ∧ r ≤ 100)

set_option maxRecDepth 100000 in
set_option maxHeartbeats 1000000 in
theorem valid_any (c k r : Int) (w : World) :
    Calls Tryz.prog 41 #[.agg #[.int .i64 c, .int .i64 k, .int .i64 r]] w fun e w' => e = .returned (.bool (confB c k r)) ∧ Below w.heap.size w w' := by
  go_enter Tryz.func41, Tryz.ntmps41
  go_wp2
  all_goals go_ret
  all_goals refine ⟨retB ?_, (Below.refl _ _).alloc (Nat.le_refl _) _⟩
  all_goals first
    | (symm; unfold confB; rw [decide_eq_false_iff_not]; omega)
    | (symm; unfold confB; rw [decide_eq_true_eq]; omega)
    | (symm; unfold confB; rw [decide_eq_decide]; omega)

set_option maxRecDepth 100000 in
set_option maxHeartbeats 1000000 in
theorem other_any (c k r : Int) (w : World) (hc : 1 ≤ c) (hc8 : c ≤ 8) (hk : 1 ≤ k) (hk4 : k ≤ 4) (hr : 2 ≤ r) (hr100 : r ≤ 100) :
    Calls Tryz.prog 6 #[.agg #[.int .i64 c, .int .i64 k, .int .i64 r]] w fun e w' => e = .returned (.agg #[.int .i64 (9 - c), .int .i64 (5 - k), .int .i64 (102 - r)]) ∧ Below w.heap.size w w' := by
  go_enter Tryz.func6, Tryz.ntmps6
  go_wp2
  exact bodyPost_ret (v := .agg #[.int .i64 (9 - c), .int .i64 (5 - k), .int .i64 (102 - r)]) (by simp [results, Tryz.results6, go_sem]) rfl ⟨rfl, ((Below.refl _ _).alloc (Nat.le_refl _) _).alloc (by simp) _⟩

end Go.Proofs.YtgpojbgjfibblabGreat.texts
