/-
  The walks of the program's Take whole (packages receiver and gist).
  Conditions stand in each theorem.
-/
import Derived.Test.YtgpojbgjfibblabGreatTakeIn
namespace Go.Proofs.YtgpojbgjfibblabGreat.texts
open Go.RowKit
set_option linter.unusedVariables false
attribute [local go_sem ↓] Go.wp_at_zero Go.wp_at_succ

theorem take_any (m : Rcv) (b : Nat) (l : List UInt8) (w : World) (hm : m.ok) (h : RcvAt w b m) (hl : l.length ≤ 9223372036854775807) :
    Calls Tryz.prog 55 #[.pointer (some ⟨b, 0, none⟩), .string (bs l)] w fun e w' => e = .returned (.tuple #[.agg (takeP m l).cells, .string (bs (takeB m l)), .int .i64 (takeE m l)]) ∧ RcvAt w' b (takeM m l) ∧ Only (· = b) w w' := by
  cases hr : readF l with
  | none =>
    have e1 : takeE m l = 4 := by unfold takeE; rw [hr]
    have e2 : takeP m l = zeroP := by unfold takeP; rw [hr]
    have e3 : takeB m l = [] := by unfold takeB; rw [hr]
    have e4 : takeM m l = m := by unfold takeM; rw [hr]
    rw [e1, e2, e3, e4]
    exact take_bad m b l w hm h hl (Or.inl hr)
  | some f =>
    by_cases hc : f.cid < m.cids
    · exact take_in m b l f w hm h hl hr hc
    · have e1 : takeE m l = 4 := by unfold takeE; rw [hr]; simp only; rw [if_pos (by omega)]
      have e2 : takeP m l = zeroP := by unfold takeP; rw [hr]; simp only; rw [e1, if_neg (by decide)]
      have e3 : takeB m l = [] := by unfold takeB; rw [hr]; simp only; rw [e1, if_pos (Or.inr (Or.inl rfl))]
      have e4 : takeM m l = m := by unfold takeM; rw [hr]; simp only; rw [e1, if_pos rfl]
      rw [e1, e2, e3, e4]
      exact take_bad m b l w hm h hl (Or.inr (by rw [hr]; exact Nat.le_of_not_lt hc))

set_option maxRecDepth 100000 in
set_option maxHeartbeats 2000000 in
theorem gtake_any (m : Rcv) (b : Nat) (l : List UInt8) (w : World) (hm : m.ok) (h : RcvAt w b m) (hl : l.length ≤ 9223372036854775807) :
    Calls Tryz.prog 31 #[.pointer (some ⟨b, 0, none⟩), .string (bs l)] w fun e w' => e = .returned (.tuple #[.agg (takeP m l).cells, .string (bs (takeB m l)), .int .i64 (takeE m l)]) ∧ RcvAt w' b (takeM m l) ∧ Only (· = b) w w' := by
  have hbw := block_lt h
  have H := hide (block_alloc h (.cells zeroP.cells 43) : RcvAt (w.alloc (.cells zeroP.cells 43)) b m)
  have HM := hide hm
  obtain ⟨PC, hPC⟩ : ∃ PC, PC = (takeP m l).cells := ⟨_, rfl⟩
  obtain ⟨B, hB⟩ : ∃ B, B = bs (takeB m l) := ⟨_, rfl⟩
  obtain ⟨E, hE⟩ : ∃ E, E = takeE m l := ⟨_, rfl⟩
  have X := hide (show ∀ w : World, RcvAt w b m → Calls Tryz.prog 55 #[.pointer (some ⟨b, 0, none⟩), .string (bs l)] w fun e w' => e = .returned (.tuple #[.agg PC, .string B, .int .i64 E]) ∧ RcvAt w' b (takeM m l) ∧ Only (· = b) w w' by
    intro w hw; rw [hPC, hB, hE]; exact take_any m b l w hm hw hl)
  have PI := hide (show (Tryz.prog.info? 43).map (·.size) = some PC.size by rw [hPC]; exact infoPk)
  have PS := hide (show zeroP.cells.size = PC.size by rw [hPC]; rfl)
  have PO := hide (show PC.all (·.oneCell') = true by rw [hPC]; exact Pk.cells_one _)
  rw [← hPC, ← hB, ← hE]
  clear h hm hPC hB hE
  go_enter Tryz.func31, Tryz.ntmps31
  go_wp2_with (first
    | (go_at_call 55; refine (unhide X _ (unhide H)).mono ?_; rintro e w1 ⟨rfl, h1, h2⟩; have R1 := h2.keep (heap_alloc_new w (.cells zeroP.cells 43)) (by omega); have HR := hide R1; have H1 := hide h1; have H2 := hide h2; clear R1 h1 h2)
    | (refine store_whole (ty := 43) rfl rfl (unhide HR) (unhide PI) (unhide PS) (unhide PO) ?_))
  exact ret_whole3 (cs := PC) Tryz.results31 rfl (setRow_heap _ _ _ _ _ _ (unhide HR)) Tryz.underlying43 rfl (unhide PI) rfl ⟨rfl, by rw [RcvAt, setRow_other _ _ _ _ (by omega)]; exact unhide H1, ((Only.of_below ((Below.refl _ _).alloc (Nat.le_refl _) _)).trans (unhide H2)).new (Nat.le_refl _) _⟩

end Go.Proofs.YtgpojbgjfibblabGreat.texts
