/-
  The walk of the statement Again (package gistkeep). The walks of copied, sameTexts and joined (package gistlaw).
  Conditions stand in each theorem.
-/
import Derived.Test.YtgpojbgjfibblabPart5
namespace Go.Proofs.Ytgpojbgjfibblab.texts
open Go.RowKit
set_option linter.unusedVariables false
attribute [local go_sem] bs_size bs_append List.length_append bs_list bs_toList bs_extract

/-- what a call owns reads as a list of texts -/
theorem own_texts {w : World} {base : Nat} {v : Value} {ls : List (List UInt8)} (h : w.ownsRow base 9 1 v ls.length (strs ls)) : ∃ ao b cap, TextsAt w v ls ao b 0 cap := by
  rcases h.2 with ⟨rfl, hn⟩ | ⟨g, cap, cur, rfl, hb, hg, hnc, hcm, hcs, htake⟩
  · refine ⟨none, 0, 0, by rw [hn], fun h0 => by omega, fun i hi => by omega⟩
  · refine ⟨some ⟨g, 0, none⟩, g, cap, rfl, fun _ => rfl, fun i hi => ?_⟩
    rw [Nat.zero_add, h.cellAt i (by omega)]
    simp [strs, List.getElem?_map, List.getElem?_eq_getElem hi]

/-- frames cut to their bound, at most k -/
def cutL (ls : List (List UInt8)) (k : Nat) : List (List UInt8) := (ls.take k).map (·.take 300)
theorem cutL_length (ls : List (List UInt8)) (k : Nat) (h : k ≤ ls.length) : (cutL ls k).length = k := by simp [cutL]; omega
theorem cutL_succ (ls : List (List UInt8)) (k : Nat) (h : k < ls.length) : cutL ls (k + 1) = cutL ls k ++ [(ls[k]?.getD []).take 300] := by
  unfold cutL
  rw [List.take_succ_eq_append_getElem h, List.getElem?_eq_getElem h, List.map_append]
  rfl
theorem cutL_short (ls : List (List UInt8)) (k : Nat) : ∀ f ∈ cutL ls k, f.length ≤ 300 := by
  intro f hf
  simp only [cutL, List.mem_map] at hf
  obtain ⟨g, _, rfl⟩ := hf
  simp; omega

theorem lit_texts (w : World) : TextsAt (w.alloc (.cells #[.string ⟨#[97]⟩, .string ⟨#[]⟩] 9)) (.slice (some ⟨w.heap.size, 0, none⟩) 2 2) [[97], []] (some ⟨w.heap.size, 0, none⟩) w.heap.size 0 2 := by
  refine ⟨rfl, fun _ => rfl, fun i hi => ?_⟩
  rw [Nat.zero_add, block_cell (heap_alloc_new w _) i]
  match i, hi with
  | 0, _ => rfl
  | 1, _ => rfl
theorem lit_joinR : joinR [[97], []] = [1, 97, 0] := by decide
theorem lit_joinE : joinE [[97], []] = 0 := by decide
theorem split_le (s : List UInt8) : (splitR s).length ≤ 8 := by
  unfold splitR
  cases e : splitL 8 s with
  | none => simp
  | some fr => exact (join_split 8 s fr e).2.1

end Go.Proofs.Ytgpojbgjfibblab.texts

namespace Go.Proofs.Ytgpojbgjfibblab.texts
open Go.RowKit
set_option linter.unusedVariables false
attribute [local go_sem] bs_size bs_append List.length_append bs_list bs_toList bs_extract

end Go.Proofs.Ytgpojbgjfibblab.texts
