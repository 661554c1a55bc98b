/-
  The walk of the program's Read (packages packet and gist).
  Conditions stand in each theorem.
-/
import Derived.Test.YtgpojbgjfibblabGreatPart4
namespace Go.Proofs.YtgpojbgjfibblabGreat.texts
open Go.RowKit
set_option linter.unusedVariables false
attribute [local go_sem ↓] Go.wp_at_zero Go.wp_at_succ
attribute [local go_sem] bs_size be_length bs_append List.length_append headL_length restL_length hdrL_length bs_extract bs_list bs_toList

theorem read_put0 (g : Nat) {B : Nat} {w w2 : World} {z : Array Value} {t : TypeId} (hg : B ≤ g) (hb : Below B w w2) (h : w2.heap[g]? = some (.cells z t (0, 0))) (hz : z.size = 8 := by rfl) :
    ((((((((w2.setCell ⟨g, 0, none⟩ (.int .u32 0)).setCell ⟨g, 1, none⟩ (.int .u32 0)).setCell ⟨g, 2, none⟩ (.int .u16 0)).setCell ⟨g, 3, none⟩ (.int .u16 0)).setCell ⟨g, 4, none⟩ (.int .u32 0)).setCell ⟨g, 5, none⟩ (.int .u16 0)).setCell ⟨g, 6, none⟩ (.int .u8 0)).setCell ⟨g, 7, none⟩ (.string ⟨#[]⟩)).heap[g]? = some (.cells zeroP.cells t (0, 0)) ∧
    Below B w ((((((((w2.setCell ⟨g, 0, none⟩ (.int .u32 0)).setCell ⟨g, 1, none⟩ (.int .u32 0)).setCell ⟨g, 2, none⟩ (.int .u16 0)).setCell ⟨g, 3, none⟩ (.int .u16 0)).setCell ⟨g, 4, none⟩ (.int .u32 0)).setCell ⟨g, 5, none⟩ (.int .u16 0)).setCell ⟨g, 6, none⟩ (.int .u8 0)).setCell ⟨g, 7, none⟩ (.string ⟨#[]⟩)) :=
  read_put zeroP g hg hb h hz

end Go.Proofs.YtgpojbgjfibblabGreat.texts
