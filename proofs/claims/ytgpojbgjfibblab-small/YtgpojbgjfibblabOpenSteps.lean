/-
  A list of steps among the arguments, opened.
  No condition.
-/
import Derived.Test.YtgpojbgjfibblabPart23
import Derived.Test.YtgpojbgjfibblabPart40
import Derived.Test.YtgpojbgjfibblabPart38
import Derived.Deep.Slices
namespace Go.Proofs.Ytgpojbgjfibblab.texts
open Go.RowKit
set_option linter.unusedVariables false

def Sp.zero : Sp := ⟨0, 0, 0, 0, 0, 0, [], false, []⟩
instance : Inhabited Sp := ⟨Sp.zero⟩
/-- a slice value reads as a list of steps -/
structure StepsAt (w : World) (v : Value) (S : List Sp) (ao : Option Addr) (b off cap : Nat) : Prop where
  form : v = .slice ao S.length cap
  addr : 0 < S.length → ao = some ⟨b, off, none⟩
  cell : ∀ i j, i < S.length → j < 9 → w.cell? ⟨b, off + i * 9 + j, none⟩ = (S.getD i Sp.zero).cells[j]?
theorem StepsAt.lt {w : World} {v : Value} {S : List Sp} {ao : Option Addr} {b off cap : Nat} (h : StepsAt w v S ao b off cap) (hn : 0 < S.length) : b < w.heap.size := by
  have h1 := h.cell 0 0 hn (by omega)
  by_cases h2 : b < w.heap.size
  · exact h2
  · simp [World.cell?, Array.getElem?_eq_none (Nat.le_of_not_lt h2), Sp.cells] at h1

theorem cellsBool : Try.prog.cellsOf 4 = 1 := by kernel_rfl
theorem list9 {α : Type} {l : List α} (h : l.length = 9) : ∃ a b c d e f g i j, l = [a, b, c, d, e, f, g, i, j] := by
  match l, h with
  | [a, b, c, d, e, f, g, i, j], _ => exact ⟨a, b, c, d, e, f, g, i, j, rfl⟩
theorem wf64 {a : Int} (h : (Lit.int .i64 a).wf = true) : -9223372036854775808 ≤ a ∧ a ≤ 9223372036854775807 := by
  simpa [Lit.wf, IntKind.min, IntKind.max, IntKind.signed, IntKind.bits] using h

section
variable {H : Type} {enc : TypeId × Value → H} {w : World} {base : Nat} {spare : Nat → Bool} {held : Bool}

theorem list3 {α : Type} {l : List α} (h : l.length = 3) : ∃ a b c, l = [a, b, c] := by
  match l, h with
  | [a, b, c], _ => exact ⟨a, b, c, rfl⟩
theorem cellsSetup : Try.prog.cellsOf 23 = 3 := by kernel_rfl
theorem open_setup {fuel : Nat} {cs : List Value} {x : DataW H × List MemPlace} (h : DataW.trod enc Try.prog w base spare held fuel 23 cs = some x) :
    ∃ a k r : Int, Raw a ∧ Raw k ∧ Raw r ∧ cs = [.int .i64 a, .int .i64 k, .int .i64 r] := by
  obtain ⟨xs, n, _, rfl, hl, hlen, hf⟩ := DataW.trod_struct Try.underlying23 h
  rw [cellsSetup] at hl
  obtain ⟨c0, c1, c2, rfl⟩ := list3 hl
  obtain ⟨y0, y1, y2, rfl⟩ := list3 hlen
  have f0 := hf 0 _ rfl
  have f1 := hf 1 _ rfl
  have f2 := hf 2 _ rfl
  simp [cellsInt] at f0 f1 f2
  obtain ⟨a, e0, d0, w0⟩ := DataW.trod_int Try.underlying3 f0
  obtain ⟨b, e1, d1, w1⟩ := DataW.trod_int Try.underlying3 f1
  obtain ⟨c, e2, d2, w2⟩ := DataW.trod_int Try.underlying3 f2
  simp at e0 e1 e2
  subst e0 e1 e2
  exact ⟨a, b, c, wf64 w0, wf64 w1, wf64 w2, rfl⟩

end

end Go.Proofs.Ytgpojbgjfibblab.texts
