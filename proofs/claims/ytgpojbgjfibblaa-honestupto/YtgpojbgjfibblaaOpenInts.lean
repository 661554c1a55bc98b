/-
  A list of whole numbers among the arguments, opened; how many elements a list of steps is read with.
  No condition.
-/
import Derived.Test.YtgpojbgjfibblaaPart40
import Derived.Test.YtgpojbgjfibblaaHonestIn
import Derived.Deep.Slices
namespace Go.Proofs.Ytgpojbgjfibblaa.texts
open Go.RowKit
set_option linter.unusedVariables false

section
variable {H : Type} {enc : TypeId × Value → H} {w : World} {base : Nat} {spare : Nat → Bool} {held : Bool}

theorem steps_data {fuel : Nat} {a : Option Addr} {len cap : Nat} {x : DataW H × List MemPlace} (h : DataW.trod enc Try.prog w base spare held fuel 82 (Value.slice a len cap).cells.toList = some x) :
    len = 0 ∨ ∃ es sp, x.1 = .slice es sp ∧ es.length = len := by
  rcases Go.Deep.open_slice Try.underlying82 h with ⟨hcs, _⟩ | ⟨a, len, cap, m, n, D, Pl, hcs, hb, hl, hm, hmm, hx, hel⟩
  · simp [Value.cells] at hcs
    exact Or.inl hcs.2.1
  · simp [Value.cells] at hcs
    obtain ⟨rfl, rfl, rfl⟩ := hcs
    exact Or.inr ⟨_, _, by rw [hx], by simp⟩
theorem open_ints {fuel : Nat} {v : Value} {x : DataW H × List MemPlace} (hv : ∃ a len cap, v = .slice a len cap) (h : DataW.trod enc Try.prog w base spare held fuel 68 v.cells.toList = some x) :
    ∃ (T : List Int) (ao : Option Addr) (b off cap : Nat), IntsAt w v T ao b off cap ∧ T.length ≤ maxLen := by
  obtain ⟨a0, l0, c0, rfl⟩ := hv
  rcases Go.Deep.open_slice1 Try.underlying68 cellsInt h with ⟨hcs, _⟩ | ⟨a, len, cap, m, n, V, D, Pl, hcs, hb, hl, hm, hmm, hx, hel⟩
  · simp [Value.cells] at hcs
    obtain ⟨rfl, rfl, rfl⟩ := hcs
    exact ⟨[], none, 0, 0, 0, ⟨rfl, fun h => by simp at h, fun i hi => by simp at hi⟩, by simp⟩
  · simp [Value.cells] at hcs
    obtain ⟨rfl, rfl, rfl⟩ := hcs
    have hlm : l0 ≤ m := by rw [hmm]; split <;> omega
    have each : ∀ i, i < l0 → ∃ z : Int, w.cell? (a.add i) = some (.int .i64 z) ∧ Raw z := by
      intro i hi
      obtain ⟨h1, h2⟩ := hel i (by omega)
      obtain ⟨z, e, _, hw⟩ := DataW.trod_int Try.underlying3 h2
      simp at e
      exact ⟨z, by rw [h1, e], wf64 hw⟩
    obtain ⟨q, hq⟩ := Go.Deep.choose_lt each
    have hll : ((List.range l0).map q).length = l0 := by simp
    have hget : ∀ i, i < l0 → ((List.range l0).map q).getD i 0 = q i := fun i hi => by simp [List.getD_eq_getElem?_getD, hi]
    refine ⟨(List.range l0).map q, some a, a.block, a.off, c0, ⟨by rw [hll], fun h0 => ?_, fun i hi => ?_⟩, by rw [hll]; omega⟩
    · rw [hll] at h0
      have hc := World.cell?_spot (hq 0 h0).1
      obtain ⟨b, o, s⟩ := a
      simp [Addr.add] at hc
      rw [hc]
    · rw [hll] at hi
      rw [hget i hi]
      have hc := (hq i hi).1
      have hs := World.cell?_spot (hq 0 (by omega)).1
      obtain ⟨b, o, s⟩ := a
      simp [Addr.add] at hs
      subst hs
      refine ⟨?_, (hq i hi).2⟩
      rw [← hc, show ((⟨b, o, none⟩ : Addr).add i) = ⟨b, o + i, none⟩ by simp [Addr.add]]
end

end Go.Proofs.Ytgpojbgjfibblaa.texts
