/-
  Small laws on blocks of memory: eight cells written one by one; what stays below a bound.
  No condition but those in each theorem.
-/
import Derived.WalkKit
import Derived.WalkSpells
import Derived.WalkLawsBesides
namespace Go.Proofs.Ytgpojbgjfibblaa.texts
open Go.RowKit
set_option linter.unusedVariables false

theorem set8 (z : Array Value) (hz : z.size = 8) (a b c d e f i j : Value) :
    (((((((z.setIfInBounds 0 a).setIfInBounds 1 b).setIfInBounds 2 c).setIfInBounds 3 d).setIfInBounds 4 e).setIfInBounds 5 f).setIfInBounds 6 i).setIfInBounds 7 j = #[a, b, c, d, e, f, i, j] := by
  obtain ⟨l⟩ := z
  obtain ⟨x0, x1, x2, x3, x4, x5, x6, x7, rfl⟩ : ∃ x0 x1 x2 x3 x4 x5 x6 x7, l = [x0, x1, x2, x3, x4, x5, x6, x7] := by
    match l, hz with
    | [x0, x1, x2, x3, x4, x5, x6, x7], _ => exact ⟨x0, x1, x2, x3, x4, x5, x6, x7, rfl⟩
  simp only [List.setIfInBounds_toArray, List.set_cons_zero, List.set_cons_succ]

/-- eight cells of a block are written -/
theorem fill8 (w : World) (g : Nat) (z : Array Value) (t : TypeId) (h : w.heap[g]? = some (.cells z t (0, 0))) (hz : z.size = 8) (a b c d e f i j : Value) :
    ((((((((w.setCell ⟨g, 0, none⟩ a).setCell ⟨g, 1, none⟩ b).setCell ⟨g, 2, none⟩ c).setCell ⟨g, 3, none⟩ d).setCell ⟨g, 4, none⟩ e).setCell ⟨g, 5, none⟩ f).setCell ⟨g, 6, none⟩ i).setCell ⟨g, 7, none⟩ j).heap[g]? = some (.cells #[a, b, c, d, e, f, i, j] t (0, 0)) := by
  have h0 := heap_setCell_same w g 0 z t a h
  have h1 := heap_setCell_same _ g 1 _ t b h0
  have h2 := heap_setCell_same _ g 2 _ t c h1
  have h3 := heap_setCell_same _ g 3 _ t d h2
  have h4 := heap_setCell_same _ g 4 _ t e h3
  have h5 := heap_setCell_same _ g 5 _ t f h4
  have h6 := heap_setCell_same _ g 6 _ t i h5
  have h7 := heap_setCell_same _ g 7 _ t j h6
  rw [h7, set8 z hz]

/-- a block that is known whole: its cells, and that none is frozen -/
theorem block_cell {w : World} {g : Nat} {z : Array Value} {t : TypeId} (h : w.heap[g]? = some (.cells z t (0, 0))) (i : Nat) : w.cell? ⟨g, i, none⟩ = z[i]? := cell_of_row w g i z t (0, 0) h
theorem block_free {w : World} {g : Nat} {z : Array Value} {t : TypeId} (h : w.heap[g]? = some (.cells z t (0, 0))) (i : Nat) : w.frozen? ⟨g, i, none⟩ = false := frozen_of_row w g i z t h
theorem block_lt {w : World} {g : Nat} {o : Obj} (h : w.heap[g]? = some o) : g < w.heap.size := (Array.getElem?_eq_some_iff.1 h).1
theorem block_keep {w w2 : World} {g : Nat} {o : Obj} (h : w.heap[g]? = some o) (hb : Below w.heap.size w w2) : w2.heap[g]? = some o := by rw [hb.block g (block_lt h)]; exact h
theorem block_alloc {w : World} {g : Nat} {o : Obj} (h : w.heap[g]? = some o) (o2 : Obj) : (w.alloc o2).heap[g]? = some o := by rw [Below.heap_alloc _ _ _ (block_lt h)]; exact h
theorem block_set {w : World} {g : Nat} {o : Obj} (h : w.heap[g]? = some o) {a : Addr} (ha : g ≠ a.block) (v : Value) : (w.setCell a v).heap[g]? = some o := by rw [Below.heap_setCell _ _ _ _ ha]; exact h

/-- the world has only grown: a call, a block more -/
theorem grew_call {w w1 w2 : World} (h : Below w.heap.size w w1) (hb : Below w1.heap.size w1 w2) : Below w.heap.size w w2 := h.trans (hb.mono h.size)
theorem grew_alloc {w w1 : World} (h : Below w.heap.size w w1) (o : Obj) : Below w.heap.size w (w1.alloc o) := h.alloc h.size o

end Go.Proofs.Ytgpojbgjfibblaa.texts
