/-
  What is no configuration: NewSender and the document's New; bodies that are too long.
  Conditions stand in each theorem.
-/
import Derived.Test.YtgpojbgjfibblabGreatNewSnd
import Derived.Test.YtgpojbgjfibblabGreatJoinDocHear
namespace Go.Proofs.YtgpojbgjfibblabGreat.texts
open Go.RowKit
set_option linter.unusedVariables false
attribute [local go_sem ↓] Go.wp_at_zero Go.wp_at_succ
attribute [local go_sem] bs_size

set_option maxRecDepth 100000 in
set_option maxHeartbeats 2000000 in
theorem dsend_long (g : Nat) (p : Pk) (w : World) (hb : 100 < p.body.length) :
    Calls Tryz.prog 23 #[.pointer (some ⟨g, 0, none⟩), .agg p.cells] w fun e w' => e = .returned (.tuple #[.string (bs []), .int .i64 2]) ∧ Below w.heap.size w w' := by
  unfold Pk.cells
  go_enter Tryz.func23, Tryz.ntmps23
  go_wp2_with fail
  go_ret2
  exact ⟨rfl, (Below.refl _ _).alloc (Nat.le_refl _) _⟩

set_option maxRecDepth 100000 in
set_option maxHeartbeats 2000000 in
theorem dnew_no (c k r : Int) (w : World) (h : confB c k r = false) :
    Calls Tryz.prog 12 #[.agg #[.int .i64 c, .int .i64 k, .int .i64 r]] w fun e w' => e = .returned (.tuple #[.pointer none, .int .i64 6]) ∧ Below w.heap.size w w' := by
  have hn : ¬ (1 ≤ c ∧ c ≤ 8 ∧ 1 ≤ k ∧ k ≤ 4 ∧ 2 ≤ r ∧ r ≤ 100) := of_decide_eq_false h
  have hc : c < 1 ∨ (¬ c < 1 ∧ 8 < c) ∨ (¬ c < 1 ∧ ¬ 8 < c ∧ k < 1) ∨ (¬ c < 1 ∧ ¬ 8 < c ∧ ¬ k < 1 ∧ 4 < k) ∨ (¬ c < 1 ∧ ¬ 8 < c ∧ ¬ k < 1 ∧ ¬ 4 < k ∧ r < 2) ∨ (¬ c < 1 ∧ ¬ 8 < c ∧ ¬ k < 1 ∧ ¬ 4 < k ∧ ¬ r < 2 ∧ 100 < r) := by omega
  clear h hn
  rcases hc with h1 | ⟨h1, h2⟩ | ⟨h1, h2, h3⟩ | ⟨h1, h2, h3, h4⟩ | ⟨h1, h2, h3, h4, h5⟩ | ⟨h1, h2, h3, h4, h5, h6⟩
  all_goals
    go_enter Tryz.func12, Tryz.ntmps12
    go_wp2_with fail
    go_ret2
    exact ⟨rfl, (Below.refl _ _).alloc (Nat.le_refl _) _⟩

set_option maxRecDepth 100000 in
set_option maxHeartbeats 4000000 in
theorem snew_no (c k r : Int) (w : World) (h : confB c k r = false) :
    Calls Tryz.prog 20 #[.agg #[.int .i64 c, .int .i64 k, .int .i64 r]] w fun e w' => e = .returned (.tuple #[.agg (rankN 0 0 0 0).cells, .int .i64 6]) ∧ Below w.heap.size w w' := by
  obtain ⟨Z, hZ⟩ : ∃ Z, Z = (rankN 0 0 0 0).cells := ⟨_, rfl⟩
  have zv : ∀ w, (zeroValue 78).run Tryz.prog w = .ok (.agg Z) w := by rw [hZ]; exact (zero_of_info zeroSnd).1
  have HV := hide (show ∀ w : World, Calls Tryz.prog 41 #[.agg #[.int .i64 c, .int .i64 k, .int .i64 r]] w fun e w' => e = .returned (.bool false) ∧ Below w.heap.size w w' by
    intro w; have := valid_any c k r w; rw [h] at this; exact this)
  have ZI := hide (show (Tryz.prog.info? 78).map (·.size) = some Z.size by rw [hZ, rankN_size _ _ _ _ (by omega)]; exact infoSnd)
  have ZO := hide (show Z.all (·.oneCell') = true by rw [hZ]; exact Snd.cells_one _)
  have HN := hide (show ∀ o : Obj, InN w (rankN 0 0 0 0) Z (((w.alloc o).alloc (.cells Z 78)).alloc (.cells Z 78)) from fun o => ⟨second_alloc w _ _ _, by rw [hZ]; exact third_alloc w _ _ _, (((Below.refl _ _).alloc (Nat.le_refl _) _).alloc (by simp) _).alloc (by simp; omega) _⟩)
  have HZ := hide hZ
  clear hZ h
  rw [← unhide HZ]
  go_enter Tryz.func20, Tryz.ntmps20
  go_wp2_with (first
    | (go_at_call 41; refine (unhide HV _).mono ?_; rintro e w1 ⟨rfl, hb1⟩; have HK := hide ((unhide HN _).call hb1); have HL := hide (show w1.heap[w.heap.size + 1 + 1]? = some (.cells Z 78 (0, 0)) by rw [unhide HZ]; exact (unhide HK).three); clear hb1)
    | (refine store_new (ty := 78) (old := Z) (g := w.heap.size + 1 + 1) rfl rfl (by simp) (unhide ZI) rfl (unhide ZO) ?_)
    | (refine load_whole (ty := 78) rfl (unhide HL) Tryz.underlying78 rfl (unhide ZI) ?_)
    | (refine store_whole (ty := 78) rfl rfl (unhide HK).two (unhide ZI) rfl (unhide ZO) ?_))
  exact ret_whole2 (cs := Z) Tryz.results20 rfl (setRow_heap _ _ _ _ _ _ (unhide HK).two) Tryz.underlying78 rfl (unhide ZI) rfl ⟨rfl, below_setRow (unhide HK).below (by omega) _⟩

set_option maxRecDepth 100000 in
set_option maxHeartbeats 4000000 in
theorem gnewS_no (c k r : Int) (w : World) (h : confB c k r = false) :
    Calls Tryz.prog 10 #[.agg #[.int .i64 c, .int .i64 k, .int .i64 r]] w fun e w' => e = .returned (.tuple #[.pointer none, .int .i64 6]) ∧ Below w.heap.size w w' := by
  obtain ⟨Z, hZ⟩ : ∃ Z, Z = (rankN 0 0 0 0).cells := ⟨_, rfl⟩
  have zv : ∀ w, (zeroValue 78).run Tryz.prog w = .ok (.agg Z) w := by rw [hZ]; exact (zero_of_info zeroSnd).1
  have HV := hide (show ∀ w : World, Calls Tryz.prog 20 #[.agg #[.int .i64 c, .int .i64 k, .int .i64 r]] w fun e w' => e = .returned (.tuple #[.agg Z, .int .i64 6]) ∧ Below w.heap.size w w' by
    intro w; rw [hZ]; exact snew_no c k r w h)
  have ZI := hide (show (Tryz.prog.info? 78).map (·.size) = some Z.size by rw [hZ, rankN_size _ _ _ _ (by omega)]; exact infoSnd)
  have ZO := hide (show Z.all (·.oneCell') = true by rw [hZ]; exact Snd.cells_one _)
  clear hZ h
  go_enter Tryz.func10, Tryz.ntmps10
  go_wp2_with (first
    | (go_at_call 20; refine (unhide HV _).mono ?_; rintro e w1 ⟨rfl, hb1⟩; have W := hide (grew_call ((Below.refl _ _).alloc (Nat.le_refl _) _) hb1); clear hb1)
    | (refine store_new (ty := 78) (old := Z) rfl rfl rfl (unhide ZI) rfl (unhide ZO) ?_))
  go_ret2
  exact ⟨rfl, grew_alloc (unhide W) _⟩

end Go.Proofs.YtgpojbgjfibblabGreat.texts
