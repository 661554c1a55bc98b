/-
  A list of texts among the arguments, opened.
  No condition.
-/
import Derived.Test.YtgpojbgjfibblaaPart4
import Derived.Test.YtgpojbgjfibblaaPart40
import Derived.SliceStrings
namespace Go.Proofs.Ytgpojbgjfibblaa.texts
open Go.RowKit
set_option linter.unusedVariables false

section
variable {H : Type} {enc : TypeId × Value → H} {w : World} {base : Nat} {spare : Nat → Bool} {held : Bool}

theorem open_texts {fuel : Nat} {v : Value} {x : DataW H × List MemPlace} (hv : ∃ a len cap, v = .slice a len cap) (h : DataW.trod enc Try.prog w base spare held fuel 63 v.cells.toList = some x) :
    ∃ (ls : List (List UInt8)) (ao : Option Addr) (b off cap : Nat), TextsAt w v ls ao b off cap ∧ ls.length ≤ maxLen ∧ (∀ f ∈ ls, f.length ≤ maxLen) ∧ (ls = [] ∨ ∃ sp, x.1 = .slice (ls.map fun f => .lit (.string f)) sp) := by
  obtain ⟨a0, l0, c0, rfl⟩ := hv
  rcases Go.ChangeShapes.open_strings Try.underlying63 Try.underlying9 cellsString h with ⟨hcs, _⟩ | ⟨a, len, cap, ss, hcs, _, hl, hm, hz, hx, hcell, hws⟩
  · simp [Value.cells] at hcs
    obtain ⟨rfl, rfl, rfl⟩ := hcs
    exact ⟨[], none, 0, 0, 0, ⟨rfl, fun h => by simp at h, fun i hi => by simp at hi⟩, by simp, by simp, Or.inl rfl⟩
  · simp [Value.cells] at hcs
    obtain ⟨rfl, rfl, rfl⟩ := hcs
    have hlen : l0 ≤ ss.length := by rw [hz]; split <;> omega
    have hll : ((ss.take l0).map fun s => s.data.toList).length = l0 := by simp; omega
    refine ⟨(ss.take l0).map fun s => s.data.toList, some a, a.block, a.off, c0, ⟨by rw [hll], fun h0 => ?_, fun i hi => ?_⟩, by rw [hll]; omega, ?_, Or.inr ⟨Go.ChangeShapes.strs (ss.drop l0), ?_⟩⟩
    · rw [hll] at h0
      have hc := World.cell?_spot (hcell 0 (by omega))
      obtain ⟨b, o, s⟩ := a
      simp [Addr.add] at hc
      rw [hc]
    · rw [hll] at hi
      have hc := hcell i (by omega)
      have hs := World.cell?_spot (hcell 0 (by omega))
      obtain ⟨b, o, s⟩ := a
      simp [Addr.add] at hs
      subst hs
      rw [show ((⟨b, o, none⟩ : Addr).add i) = ⟨b, o + i, none⟩ by simp [Addr.add]] at hc
      have hss : i < ss.length := by omega
      rw [List.getElem?_map, List.getElem?_take, if_pos hi, List.getElem?_eq_getElem hss]
      simp only [Option.map_some, Option.getD_some]
      rw [bs_of]
      simpa [List.getD, List.getElem?_eq_getElem hss] using hc
    · intro f hf
      simp only [List.mem_map] at hf
      obtain ⟨s, hs, rfl⟩ := hf
      have := hws s (List.mem_of_mem_take hs)
      simpa using this
    · rw [hx]
      simp [Go.ChangeShapes.strs]
      rfl
end

end Go.Proofs.Ytgpojbgjfibblaa.texts
