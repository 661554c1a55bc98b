/-
  The walk of the line's packet of a step (gistkeep).
  Conditions stand in each theorem.
-/
import Derived.Test.YtgpojbgjfibblabKeepWalk
namespace Go.Proofs.Ytgpojbgjfibblab.texts
open Go.RowKit
set_option linter.unusedVariables false
attribute [local go_sem ↓] Go.wp_at_zero Go.wp_at_succ
attribute [local go_sem] bs_size be_length bs_append List.length_append bs_extract bs_list

theorem LnAt.drew {w : World} {b : Nat} {m : Ln} (h : LnAt w b m) : LnAt w.drew b m := h
theorem at_drew {w : World} {k : Nat} {O : Obj} (h : w.heap[k]? = some O) : w.drew.heap[k]? = some O := h
/-- a packet is written into the line -/
theorem ln_fill {w : World} {b : Nat} {m : Ln} (hm : m.ok) (h : LnAt w b m) {n : Nat} (hn : n < 10) (P : Pk) : LnAt ((((((((w.setCell ⟨b, 5 + n * 8, none⟩ (.int .u32 P.src)).setCell ⟨b, 5 + n * 8 + 1, none⟩ (.int .u32 P.dst)).setCell ⟨b, 5 + n * 8 + 2, none⟩ (.int .u16 P.port)).setCell ⟨b, 5 + n * 8 + 3, none⟩ (.int .u16 P.seq)).setCell ⟨b, 5 + n * 8 + 4, none⟩ (.int .u32 P.time)).setCell ⟨b, 5 + n * 8 + 5, none⟩ (.int .u16 P.id)).setCell ⟨b, 5 + n * 8 + 6, none⟩ (.int .u8 P.flags)).setCell ⟨b, 5 + n * 8 + 7, none⟩ (.string (bs P.body))) b (m.setLast n P) := by
  have h0 := heap_setCell_same w b (5 + n * 8) _ _ (.int .u32 P.src) h
  have h1 := heap_setCell_same _ b (5 + n * 8 + 1) _ _ (.int .u32 P.dst) h0
  have h2 := heap_setCell_same _ b (5 + n * 8 + 2) _ _ (.int .u16 P.port) h1
  have h3 := heap_setCell_same _ b (5 + n * 8 + 3) _ _ (.int .u16 P.seq) h2
  have h4 := heap_setCell_same _ b (5 + n * 8 + 4) _ _ (.int .u32 P.time) h3
  have h5 := heap_setCell_same _ b (5 + n * 8 + 5) _ _ (.int .u16 P.id) h4
  have h6 := heap_setCell_same _ b (5 + n * 8 + 6) _ _ (.int .u8 P.flags) h5
  have h7 := heap_setCell_same _ b (5 + n * 8 + 7) _ _ (.string (bs P.body)) h6
  have e := Ln.putLast hm n P hn
  have e2 : putRow m.cells (5 + n * 8) P.cells.toList = (((((((m.cells.setIfInBounds (5 + n * 8) (.int .u32 P.src)).setIfInBounds (5 + n * 8 + 1) (.int .u32 P.dst)).setIfInBounds (5 + n * 8 + 2) (.int .u16 P.port)).setIfInBounds (5 + n * 8 + 3) (.int .u16 P.seq)).setIfInBounds (5 + n * 8 + 4) (.int .u32 P.time)).setIfInBounds (5 + n * 8 + 5) (.int .u16 P.id)).setIfInBounds (5 + n * 8 + 6) (.int .u8 P.flags)).setIfInBounds (5 + n * 8 + 7) (.string (bs P.body)) := rfl
  rw [← e2, e] at h7
  exact h7
theorem ln_other {w : World} {b k : Nat} {O : Obj} (h : w.heap[k]? = some O) (hk : k ≠ b) (n : Nat) (P : Pk) : (((((((((w.setCell ⟨b, 5 + n * 8, none⟩ (.int .u32 P.src)).setCell ⟨b, 5 + n * 8 + 1, none⟩ (.int .u32 P.dst)).setCell ⟨b, 5 + n * 8 + 2, none⟩ (.int .u16 P.port)).setCell ⟨b, 5 + n * 8 + 3, none⟩ (.int .u16 P.seq)).setCell ⟨b, 5 + n * 8 + 4, none⟩ (.int .u32 P.time)).setCell ⟨b, 5 + n * 8 + 5, none⟩ (.int .u16 P.id)).setCell ⟨b, 5 + n * 8 + 6, none⟩ (.int .u8 P.flags)).setCell ⟨b, 5 + n * 8 + 7, none⟩ (.string (bs P.body)))).heap[k]? = some O := by
  rw [Below.heap_setCell _ _ _ _ (by exact hk), Below.heap_setCell _ _ _ _ (by exact hk), Below.heap_setCell _ _ _ _ (by exact hk), Below.heap_setCell _ _ _ _ (by exact hk), Below.heap_setCell _ _ _ _ (by exact hk), Below.heap_setCell _ _ _ _ (by exact hk), Below.heap_setCell _ _ _ _ (by exact hk), Below.heap_setCell _ _ _ _ (by exact hk)]
  exact h
theorem ln_only {w a : World} {b : Nat} (h : Only (· = b) a w) (n : Nat) (P : Pk) : Only (· = b) a ((((((((w.setCell ⟨b, 5 + n * 8, none⟩ (.int .u32 P.src)).setCell ⟨b, 5 + n * 8 + 1, none⟩ (.int .u32 P.dst)).setCell ⟨b, 5 + n * 8 + 2, none⟩ (.int .u16 P.port)).setCell ⟨b, 5 + n * 8 + 3, none⟩ (.int .u16 P.seq)).setCell ⟨b, 5 + n * 8 + 4, none⟩ (.int .u32 P.time)).setCell ⟨b, 5 + n * 8 + 5, none⟩ (.int .u16 P.id)).setCell ⟨b, 5 + n * 8 + 6, none⟩ (.int .u8 P.flags)).setCell ⟨b, 5 + n * 8 + 7, none⟩ (.string (bs P.body))) :=
  (((((((h.setCell rfl _).setCell rfl _).setCell rfl _).setCell rfl _).setCell rfl _).setCell rfl _).setCell rfl _).setCell rfl _

end Go.Proofs.Ytgpojbgjfibblab.texts
