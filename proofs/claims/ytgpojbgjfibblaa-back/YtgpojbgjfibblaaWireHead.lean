/-
  The walk of the program's header as bytes (package wire): Header.
  Conditions stand in each theorem.
-/
import Derived.Test.YtgpojbgjfibblaaWire
namespace Go.Proofs.Ytgpojbgjfibblaa.texts
open Go.RowKit
set_option linter.unusedVariables false
attribute [local go_sem ↓] Go.wp_at_zero Go.wp_at_succ
attribute [local go_sem] bs_size be_length bs_append List.length_append

/-- a packet's cells lie in a block of their own, and nothing below has changed -/
structure PkAt (w : World) (p : Pk) (w' : World) : Prop where
  src : w'.cell? ⟨w.heap.size, 0, none⟩ = some (.int .u32 p.src)
  dst : w'.cell? ⟨w.heap.size, 1, none⟩ = some (.int .u32 p.dst)
  port : w'.cell? ⟨w.heap.size, 2, none⟩ = some (.int .u16 p.port)
  seq : w'.cell? ⟨w.heap.size, 3, none⟩ = some (.int .u16 p.seq)
  time : w'.cell? ⟨w.heap.size, 4, none⟩ = some (.int .u32 p.time)
  id : w'.cell? ⟨w.heap.size, 5, none⟩ = some (.int .u16 p.id)
  flags : w'.cell? ⟨w.heap.size, 6, none⟩ = some (.int .u8 p.flags)
  body : w'.cell? ⟨w.heap.size, 7, none⟩ = some (.string (bs p.body))
  below : Below w.heap.size w w'
theorem PkAt.call {w w1 w2 : World} {p : Pk} (h : PkAt w p w1) (hb : Below w1.heap.size w1 w2) : PkAt w p w2 :=
  ⟨keep_cell h.src hb, keep_cell h.dst hb, keep_cell h.port hb, keep_cell h.seq hb, keep_cell h.time hb, keep_cell h.id hb, keep_cell h.flags hb, keep_cell h.body hb, h.below.trans (hb.mono h.below.size)⟩
theorem PkAt.start (w : World) (p : Pk) : PkAt w p (w.alloc (.cells p.cells 51)) :=
  ⟨by simp [Pk.cells], by simp [Pk.cells], by simp [Pk.cells], by simp [Pk.cells], by simp [Pk.cells], by simp [Pk.cells], by simp [Pk.cells], by simp [Pk.cells], (Below.refl _ _).alloc (Nat.le_refl _) _⟩
theorem PkAt.drew {w w1 : World} {p : Pk} (h : PkAt w p w1) : PkAt w p w1.drew :=
  ⟨h.src, h.dst, h.port, h.seq, h.time, h.id, h.flags, h.body, h.below.drew⟩

set_option maxRecDepth 100000 in
set_option maxHeartbeats 1000000 in
theorem wfields_any (p : Pk) (w : World) (hp : p.ok) :
    Calls Try.prog 108 #[.agg p.cells] w fun e w' => e = .returned (.string (bs (restL p))) ∧ Below w.heap.size w w' := by
  obtain ⟨h1, h2, h3, h4, h5, h6, h7⟩ := hp
  unfold Pk.cells
  go_enter Try.func108, Try.ntmps108
  go_wp2_with fail
  go_region_held3 (fun w' => w'.cell? ⟨w.heap.size, 3, none⟩ = some (.int .u16 p.seq) ∧ w'.cell? ⟨w.heap.size, 4, none⟩ = some (.int .u32 p.time) ∧ w'.cell? ⟨w.heap.size, 5, none⟩ = some (.int .u16 p.id) ∧ w'.cell? ⟨w.heap.size, 6, none⟩ = some (.int .u8 p.flags) ∧ Below w.heap.size w w' ∧ w.heap.size ≤ w'.heap.size)
    (first | (go_keep; done) | (refine ⟨by simp, by simp, by simp, by simp, ((Below.refl _ _).alloc (Nat.le_refl _) _).drew, by simp⟩) | (go_split_ands; exact ⟨keep_cell (by assumption) hbel, keep_cell (by assumption) hbel, keep_cell (by assumption) hbel, keep_cell (by assumption) hbel, keep_below (by assumption) hbel (by assumption), Nat.le_trans (by assumption) hbel.size⟩))
    ((first | (go_at_call 107; refine (text32_any _ _ (by omega) (by omega)).mono ?_; rintro e w' ⟨rfl, hbel⟩) | (go_at_call 90; refine (text16_any _ _ (by omega) (by omega)).mono ?_; rintro e w' ⟨rfl, hbel⟩) | (go_at_call 89; refine (text8_any _ _ (by omega) (by omega)).mono ?_; rintro e w' ⟨rfl, hbel⟩)))
  all_goals go_split_ands
  all_goals go_wp2
  all_goals go_ret
  all_goals exact ⟨ret_str (by simp [restL]), by assumption⟩

set_option maxRecDepth 100000 in
set_option maxHeartbeats 1000000 in
theorem wheader_any (p : Pk) (w : World) (hp : p.ok) :
    Calls Try.prog 88 #[.agg p.cells] w fun e w' => e = .returned (.string (bs (hdrL p))) ∧ Below w.heap.size w w' := by
  have hrl : (restL p).length = 9 := by simp [restL, be_length]
  have hp' := hide hp
  obtain ⟨h1, h2, h3, h4, h5, h6, h7⟩ := hp
  unfold Pk.cells
  go_enter Try.func88, Try.ntmps88
  go_wp2_with fail
  go_region_held3 (fun w' => w'.cell? ⟨w.heap.size, 0, none⟩ = some (.int .u32 p.src) ∧ w'.cell? ⟨w.heap.size, 1, none⟩ = some (.int .u32 p.dst) ∧ w'.cell? ⟨w.heap.size, 2, none⟩ = some (.int .u16 p.port) ∧ w'.cell? ⟨w.heap.size, 3, none⟩ = some (.int .u16 p.seq) ∧ w'.cell? ⟨w.heap.size, 4, none⟩ = some (.int .u32 p.time) ∧ w'.cell? ⟨w.heap.size, 5, none⟩ = some (.int .u16 p.id) ∧ w'.cell? ⟨w.heap.size, 6, none⟩ = some (.int .u8 p.flags) ∧ w'.cell? ⟨w.heap.size, 7, none⟩ = some (.string (bs p.body)) ∧ Below w.heap.size w w' ∧ w.heap.size ≤ w'.heap.size)
    (first | (go_keep; done) | (refine ⟨by simp, by simp, by simp, by simp, by simp, by simp, by simp, by simp, ((Below.refl _ _).alloc (Nat.le_refl _) _).drew, by simp⟩) | (go_split_ands; exact ⟨keep_cell (by assumption) hbel, keep_cell (by assumption) hbel, keep_cell (by assumption) hbel, keep_cell (by assumption) hbel, keep_cell (by assumption) hbel, keep_cell (by assumption) hbel, keep_cell (by assumption) hbel, keep_cell (by assumption) hbel, keep_below (by assumption) hbel (by assumption), Nat.le_trans (by assumption) hbel.size⟩))
    ((first | (go_at_call 107; refine (text32_any _ _ (by omega) (by omega)).mono ?_; rintro e w' ⟨rfl, hbel⟩) | (go_at_call 90; refine (text16_any _ _ (by omega) (by omega)).mono ?_; rintro e w' ⟨rfl, hbel⟩)))
  all_goals go_split_ands
  all_goals go_wp2_with (go_at_call 108; refine (wfields_any p _ hp'.out).mono ?_; rintro e w2 ⟨rfl, hbel2⟩)
  all_goals go_ret
  all_goals exact ⟨ret_str (by simp [hdrL, headL, restL]), keep_below (by assumption) hbel2 (by assumption)⟩

end Go.Proofs.Ytgpojbgjfibblaa.texts
