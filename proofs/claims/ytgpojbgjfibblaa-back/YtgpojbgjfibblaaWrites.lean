/-
  The walk of the document's Write (package gistref).
  Conditions stand in each theorem.
-/
import Derived.Test.YtgpojbgjfibblaaPacks
import Derived.Test.YtgpojbgjfibblaaRefSum
namespace Go.Proofs.Ytgpojbgjfibblaa.texts
open Go.RowKit
set_option linter.unusedVariables false
attribute [local go_sem ↓] Go.wp_at_zero Go.wp_at_succ
attribute [local go_sem] bs_size be_length bs_append List.length_append headL_length restL_length hdrL_length

/-- a packet's text, ahead of the sum; the text -/
def bareL (p : Pk) : List UInt8 := hdrL p ++ (be p.body.length 1 ++ p.body)
def textL (p : Pk) : List UInt8 := bareL p ++ be (plain.sumOf (bareL p)) 2
theorem bareL_length (p : Pk) : (bareL p).length = 20 + p.body.length := by simp [bareL, hdrL_length, be_length]; omega

theorem ret_si {a b : ByteArray} {c d : Int} (h : a = b) (g : c = d) : Ending.returned (.tuple #[.string a, .int .i64 c]) = .returned (.tuple #[.string b, .int .i64 d]) := by rw [h, g]

set_option maxHeartbeats 1000000 in
theorem rwrite_long (p : Pk) (w : World) (h : 100 < p.body.length) (h' : p.body.length ≤ 9223372036854775807) :
    Calls Try.prog 28 #[.agg p.cells] w fun e w' => e = .returned (.tuple #[.string (bs []), .int .i64 2]) ∧ Below w.heap.size w w' := by
  unfold Pk.cells
  go_enter Try.func28, Try.ntmps28
  go_wp2_with fail
  go_ret2
  exact ⟨rfl, (Below.refl _ _).alloc (Nat.le_refl _) _⟩

set_option maxHeartbeats 1000000 in
theorem rwrite_good (p : Pk) (w : World) (hp : p.ok) (h : p.body.length ≤ 100) :
    Calls Try.prog 28 #[.agg p.cells] w fun e w' => e = .returned (.tuple #[.string (bs (textL p)), .int .i64 0]) ∧ Below w.heap.size w w' := by
  have Hp := hide hp
  unfold Pk.cells
  go_enter Try.func28, Try.ntmps28
  go_wp2_with (go_at_call 56; refine (flatten_any p _ (unhide Hp)).mono ?_; rintro e w1 ⟨rfl, hb1⟩; unfold Pk.flat; have hc7 := keep_cell (a := ⟨w.heap.size, 7, none⟩) (v := .string (bs p.body)) (by simp) hb1)
  have hbw : Below w.heap.size w w1 := ((Below.refl _ _).alloc (Nat.le_refl _) _).trans (hb1.mono (by simp))
  have hzw : w.heap.size ≤ w1.heap.size := hbw.size
  clear hb1
  have hno : ¬ 9223372036854775807 < 20 + p.body.length := by omega
  go_region_held3 (fun w' => w'.cell? ⟨w1.heap.size, 0, none⟩ = some (.int .u32 p.src) ∧ w'.cell? ⟨w1.heap.size, 1, none⟩ = some (.int .u32 p.dst) ∧ w'.cell? ⟨w1.heap.size, 2, none⟩ = some (.int .u16 p.port) ∧ w'.cell? ⟨w1.heap.size, 3, none⟩ = some (.int .i64 p.seq) ∧ w'.cell? ⟨w1.heap.size, 4, none⟩ = some (.int .i64 p.time) ∧ w'.cell? ⟨w1.heap.size, 5, none⟩ = some (.int .i64 p.id) ∧ w'.cell? ⟨w1.heap.size, 6, none⟩ = some (.int .i64 p.flags) ∧ w'.cell? ⟨w1.heap.size, 7, none⟩ = some (.string (bs p.body)) ∧ w'.cell? ⟨w.heap.size, 7, none⟩ = some (.string (bs p.body)) ∧ Below w.heap.size w w' ∧ w.heap.size ≤ w'.heap.size)
    (first | (go_keep; done) | (refine ⟨by simp, by simp, by simp, by simp, by simp, by simp, by simp, by simp, by go_keep, (hbw.alloc hzw _).drew, by simp; omega⟩) | (go_split_ands; exact ⟨keep_cell (by assumption) hbel, keep_cell (by assumption) hbel, keep_cell (by assumption) hbel, keep_cell (by assumption) hbel, keep_cell (by assumption) hbel, keep_cell (by assumption) hbel, keep_cell (by assumption) hbel, keep_cell (by assumption) hbel, keep_cell (by assumption) hbel, keep_below (by assumption) hbel (by assumption), Nat.le_trans (by assumption) hbel.size⟩))
    ((first | (go_at_call 57; refine (header_any p _ (unhide Hp)).mono ?_; rintro e w' ⟨rfl, hbel⟩) | (go_at_call 58; refine (bytes_any _ _ _ (by omega) (by omega) (by omega) (by omega)).mono ?_; rintro e w' ⟨rfl, hbel⟩)))
  all_goals go_split_ands
  all_goals
    have HB : Below w.heap.size w w' := by assumption
    have HZ : w.heap.size ≤ w'.heap.size := by assumption
    have hlen : (bs (hdrL p ++ (be p.body.length 1 ++ p.body))).size ≤ 1048576 := by rw [bs_size]; have := bareL_length p; unfold bareL at this; omega
    have hS : plain.sumOf (bareL p) ≤ 65535 := by unfold plain.sumOf; omega
    have HS := hide (bs_list (bareL p))
    unfold bareL at HS
    go_wp2_with (first | (go_at_call 16; refine (bits.rsum_any _ _ hlen).mono ?_; rintro e w2 ⟨rfl, rfl⟩; rw [unhide HS]) | (go_at_call 58; refine (bytes_any _ _ _ (by omega) (by unfold bareL at hS; omega) (by omega) (by omega)).mono ?_; rintro e w3 ⟨rfl, hbel3⟩))
    go_ret2
    exact ⟨ret_si (by simp [textL, bareL]) rfl, HB.trans (hbel3.mono HZ)⟩

/-- what Write answers -/
def writeR (p : Pk) : List UInt8 := if p.body.length ≤ 100 then textL p else []
def writeE (p : Pk) : Int := if p.body.length ≤ 100 then 0 else 2
theorem rwrite_any (p : Pk) (w : World) (hp : p.ok) (h' : p.body.length ≤ 9223372036854775807) :
    Calls Try.prog 28 #[.agg p.cells] w fun e w' => e = .returned (.tuple #[.string (bs (writeR p)), .int .i64 (writeE p)]) ∧ Below w.heap.size w w' := by
  unfold writeR writeE
  by_cases h : p.body.length ≤ 100
  · rw [if_pos h, if_pos h]; exact rwrite_good p w hp h
  · rw [if_neg h, if_neg h]; exact rwrite_long p w (by omega) h'

end Go.Proofs.Ytgpojbgjfibblaa.texts
