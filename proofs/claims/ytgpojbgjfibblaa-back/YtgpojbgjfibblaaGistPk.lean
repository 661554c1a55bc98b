/-
  The walks of the program's Write and Read (packages packet and gist).
  Conditions stand in each theorem.
-/
import Derived.Test.YtgpojbgjfibblaaWireRead
namespace Go.Proofs.Ytgpojbgjfibblaa.texts
open Go.RowKit
set_option linter.unusedVariables false
attribute [local go_sem ↓] Go.wp_at_zero Go.wp_at_succ
attribute [local go_sem] bs_size be_length bs_append List.length_append headL_length restL_length hdrL_length bs_extract bs_list bs_toList

set_option maxHeartbeats 1000000 in
set_option maxRecDepth 100000 in
theorem pwrite_long (p : Pk) (w : World) (h : 100 < p.body.length) (h' : p.body.length ≤ 9223372036854775807) :
    Calls Try.prog 55 #[.agg p.cells] w fun e w' => e = .returned (.tuple #[.string (bs []), .int .i64 2]) ∧ Below w.heap.size w w' := by
  unfold Pk.cells
  go_enter Try.func55, Try.ntmps55
  go_wp2_with fail
  go_ret2
  exact ⟨rfl, (Below.refl _ _).alloc (Nat.le_refl _) _⟩

set_option maxHeartbeats 1000000 in
set_option maxRecDepth 100000 in
theorem pwrite_good (p : Pk) (w : World) (hp : p.ok) (h : p.body.length ≤ 100) :
    Calls Try.prog 55 #[.agg p.cells] w fun e w' => e = .returned (.tuple #[.string (bs (textL p)), .int .i64 0]) ∧ Below w.heap.size w w' := by
  have Hp := hide hp
  have hw8 : IntKind.u8.wrap (p.body.length : Int) = p.body.length := wrap8 (by omega)
  unfold Pk.cells
  go_enter Try.func55, Try.ntmps55
  go_wp2_with fail
  have hno : ¬ 9223372036854775807 < 20 + p.body.length := by omega
  go_region_held3 (fun w' => w'.cell? ⟨w.heap.size, 0, none⟩ = some (.int .u32 p.src) ∧ w'.cell? ⟨w.heap.size, 1, none⟩ = some (.int .u32 p.dst) ∧ w'.cell? ⟨w.heap.size, 2, none⟩ = some (.int .u16 p.port) ∧ w'.cell? ⟨w.heap.size, 3, none⟩ = some (.int .u16 p.seq) ∧ w'.cell? ⟨w.heap.size, 4, none⟩ = some (.int .u32 p.time) ∧ w'.cell? ⟨w.heap.size, 5, none⟩ = some (.int .u16 p.id) ∧ w'.cell? ⟨w.heap.size, 6, none⟩ = some (.int .u8 p.flags) ∧ w'.cell? ⟨w.heap.size, 7, none⟩ = some (.string (bs p.body)) ∧ Below w.heap.size w w' ∧ w.heap.size ≤ w'.heap.size)
    (first | (go_keep; done) | (refine ⟨by simp, by simp, by simp, by simp, by simp, by simp, by simp, by simp, ((Below.refl _ _).alloc (Nat.le_refl _) _).drew, by simp⟩) | (go_split_ands; exact ⟨keep_cell (by assumption) hbel, keep_cell (by assumption) hbel, keep_cell (by assumption) hbel, keep_cell (by assumption) hbel, keep_cell (by assumption) hbel, keep_cell (by assumption) hbel, keep_cell (by assumption) hbel, keep_cell (by assumption) hbel, keep_below (by assumption) hbel (by assumption), Nat.le_trans (by assumption) hbel.size⟩))
    ((first | (go_at_call 88; refine (wheader_any p _ (unhide Hp)).mono ?_; rintro e w' ⟨rfl, hbel⟩) | (go_at_call 89; refine (text8_any _ _ (by omega) (by omega)).mono ?_; rintro e w' ⟨rfl, hbel⟩)))
  all_goals go_split_ands
  all_goals
    have HB : Below w.heap.size w w' := by assumption
    have HZ : w.heap.size ≤ w'.heap.size := by assumption
    have hlen : (bs (hdrL p ++ (be p.body.length 1 ++ p.body))).size ≤ maxLen := by rw [bs_size]; have := bareL_length p; unfold bareL at this; unfold maxLen; omega
    have hS : plain.sumOf (bareL p) ≤ 65535 := by unfold plain.sumOf; omega
    have HS := hide (bs_list (bareL p))
    unfold bareL at HS
    go_wp2_with (first | (go_at_call 47; refine (bits.csum_any _ _ hlen).mono ?_; rintro e w2 ⟨rfl, rfl⟩; rw [unhide HS]) | (go_at_call 90; refine (text16_any _ _ (by omega) (by unfold bareL at hS; omega)).mono ?_; rintro e w3 ⟨rfl, hbel3⟩))
    go_ret2
    exact ⟨ret_si (by simp [textL, bareL]) rfl, HB.trans (hbel3.mono HZ)⟩

theorem pwrite_any (p : Pk) (w : World) (hp : p.ok) (h' : p.body.length ≤ 9223372036854775807) :
    Calls Try.prog 55 #[.agg p.cells] w fun e w' => e = .returned (.tuple #[.string (bs (writeR p)), .int .i64 (writeE p)]) ∧ Below w.heap.size w w' := by
  unfold writeR writeE
  by_cases h : p.body.length ≤ 100
  · rw [if_pos h, if_pos h]; exact pwrite_good p w hp h
  · rw [if_neg h, if_neg h]; exact pwrite_long p w (by omega) h'

set_option maxHeartbeats 1000000 in
set_option maxRecDepth 100000 in
theorem gwrite_any (p : Pk) (w : World) (hp : p.ok) (h' : p.body.length ≤ 9223372036854775807) :
    Calls Try.prog 27 #[.agg p.cells] w fun e w' => e = .returned (.tuple #[.string (bs (writeR p)), .int .i64 (writeE p)]) ∧ Below w.heap.size w w' := by
  have Hp := hide hp
  unfold Pk.cells
  go_enter Try.func27, Try.ntmps27
  go_wp2_with (go_at_call 55; refine (pwrite_any p _ (unhide Hp) h').mono ?_; rintro e w2 ⟨rfl, hb2⟩)
  go_ret2
  exact ⟨rfl, ((Below.refl _ _).alloc (Nat.le_refl _) _).trans (hb2.mono (by simp))⟩

end Go.Proofs.Ytgpojbgjfibblaa.texts
