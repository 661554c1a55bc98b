/-
  The walks of the document's Head, Rest and Header (package gistref).
  Conditions stand in each theorem.
-/
import Derived.Test.YtgpojbgjfibblaaTexts
import Derived.Deep.RegionHeld3
import Derived.Deep.DrawnRows
namespace Go.Proofs.Ytgpojbgjfibblaa.texts
open Go.RowKit
set_option linter.unusedVariables false
attribute [local go_sem ↓] Go.wp_at_zero Go.wp_at_succ
attribute [local go_sem] bs_size be_length bs_append List.length_append

/-- the ten bytes of a route -/
def headL (src dst port : Nat) : List UInt8 := be src 4 ++ be dst 4 ++ be port 2

theorem keep_cell {w1 w2 : World} {a : Addr} {v : Value} (h : w1.cell? a = some v) (hb : Below w1.heap.size w1 w2) : w2.cell? a = some v := by
  have hlt : a.block < w1.heap.size := by
    by_cases h2 : a.block < w1.heap.size
    · exact h2
    · simp [World.cell?, Array.getElem?_eq_none (Nat.le_of_not_lt h2)] at h
  rw [hb.cell hlt]; exact h

theorem wrap_id {a : Int} (h0 : 0 ≤ a) (h1 : a ≤ 4294967295) : IntKind.i64.wrap a = a := by
  simp [IntKind.wrap, IntKind.bits, IntKind.signed]; omega
theorem keep_below {B : Nat} {w w1 w2 : World} (h : Below B w w1) (hb : Below w1.heap.size w1 w2) (hs : B ≤ w1.heap.size) : Below B w w2 := h.trans (hb.mono hs)

set_option maxHeartbeats 1000000 in
theorem head_any (a b c : Int) (w : World) (ha : 0 ≤ a) (ha' : a ≤ 4294967295) (hb : 0 ≤ b) (hb' : b ≤ 4294967295) (hc : 0 ≤ c) (hc' : c ≤ 65535) :
    Calls Try.prog 91 #[.agg #[.int .u32 a, .int .u32 b, .int .u16 c]] w fun e w' => e = .returned (.string (bs (headL a.toNat b.toNat c.toNat))) ∧ Below w.heap.size w w' := by
  have wa := wrap_id ha ha'
  have wb := wrap_id hb hb'
  have wc := wrap_id hc (by omega : c ≤ 4294967295)
  go_enter Try.func91, Try.ntmps91
  go_wp2_with fail
  go_region_held3 (fun w' => w'.cell? ⟨w.heap.size, 0, none⟩ = some (.int .u32 a) ∧ w'.cell? ⟨w.heap.size, 1, none⟩ = some (.int .u32 b) ∧ w'.cell? ⟨w.heap.size, 2, none⟩ = some (.int .u16 c) ∧ Below w.heap.size w w' ∧ w.heap.size ≤ w'.heap.size)
    (first | (go_keep; done) | (refine ⟨by simp, by simp, by simp, ((Below.refl _ _).alloc (Nat.le_refl _) _).drew, by simp⟩) | (go_split_ands; exact ⟨keep_cell (by assumption) hbel, keep_cell (by assumption) hbel, keep_cell (by assumption) hbel, keep_below (by assumption) hbel (by assumption), Nat.le_trans (by assumption) hbel.size⟩))
    ((go_at_call 58; refine (bytes_any _ _ _ (by omega) (by omega) (by omega) (by omega)).mono ?_; rintro e w' ⟨rfl, hbel⟩))
  all_goals go_split_ands
  all_goals go_wp2
  all_goals go_ret
  all_goals exact ⟨rfl, by assumption⟩

end Go.Proofs.Ytgpojbgjfibblaa.texts
