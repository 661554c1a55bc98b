/-
  Rows of bits in memory: what each step of the document's check does to them.
  Conditions stand in each theorem.
-/
import Derived.Test.YtgpojbgjfibblaaRefBits
import Derived.Deep.QuietTactic
import Derived.BigQuiet
namespace Go.Proofs.Ytgpojbgjfibblaa.bits
open Go.RowKit
set_option linter.unusedVariables false

/-- a bit of a number, under a name that nothing lays open -/
def tb (c i : Nat) : Bool := c.testBit i
/-- a row of bits; the same with the first k alone -/
def rowL (wd c : Nat) : List Value := (List.range wd).map fun i => .bool (tb c i)
def partL (wd c k : Nat) : List Value := (List.range wd).map fun i => .bool (decide (i < k) && tb c i)

theorem partL_length (wd c k : Nat) : (partL wd c k).length = wd := by simp [partL]
theorem rowL_length (wd c : Nat) : (rowL wd c).length = wd := by simp [rowL]
theorem partL_zero (wd c : Nat) : List.replicate wd (Value.bool false) = partL wd c 0 := by
  refine List.ext_getElem (by simp [partL]) fun i h1 h2 => ?_
  simp [partL]
theorem partL_full (wd c : Nat) : partL wd c wd = rowL wd c := by
  refine List.ext_getElem (by simp [partL, rowL]) fun i h1 h2 => ?_
  have h : i < wd := by simpa [rowL] using h2
  simp [partL, rowL, h]
theorem partL_set (wd c k : Nat) (hk : k < wd) : (partL wd c k).set k (.bool (tb c k)) = partL wd c (k + 1) := by
  refine List.ext_getElem (by simp [partL]) fun i h1 h2 => ?_
  rw [List.getElem_set]
  simp only [partL, List.getElem_map, List.getElem_range]
  by_cases h : k = i
  · subst h; simp
  · rw [if_neg h]
    by_cases h3 : i < k
    · simp [h3, show i < k + 1 by omega]
    · simp [h3, show ¬ i < k + 1 by omega]
theorem rowL_at (wd c k : Nat) (hk : k < wd) : (rowL wd c)[k]? = some (.bool (tb c k)) := by
  rw [List.getElem?_eq_getElem (by simp [rowL]; exact hk)]; simp [rowL]
theorem partL_at (wd c j k : Nat) (hk : k < wd) : (partL wd c j)[k]? = some (.bool (decide (k < j) && tb c k)) := by
  rw [List.getElem?_eq_getElem (by simp [partL]; exact hk)]; simp [partL]

/-- a slice value over its own block -/
abbrev sl (g wd : Nat) : Value := .slice (some ⟨g, 0, none⟩) wd wd

theorem own_form {w : World} {base : Nat} {e : TypeId} {v : Value} {n : Nat} {xs : List Value} (h : w.ownsRow base e 1 v n xs) :
    ∃ ao cap, v = .slice ao n cap ∧ (0 < n → ∃ g, ao = some ⟨g, 0, none⟩ ∧ g < w.heap.size) := by
  rcases h.2 with ⟨rfl, rfl⟩ | ⟨g, cap, cur, rfl, hb, hg, r⟩
  · exact ⟨none, 0, rfl, fun h => absurd h (by omega)⟩
  · refine ⟨some ⟨g, 0, none⟩, cap, rfl, fun _ => ⟨g, rfl, ?_⟩⟩
    exact (Array.getElem?_eq_some_iff.1 hg).1

/-- what is owned does not depend on the draws -/
theorem own_drewN {w : World} {base : Nat} {e : TypeId} {size : Nat} {v : Value} {n : Nat} {xs : List Value} (h : w.ownsRow base e size v n xs) (m : Nat) : (w.drewN m).ownsRow base e size v n xs := h

theorem own_below {w w2 : World} {base : Nat} {e : TypeId} {size : Nat} {v : Value} {n : Nat} {xs : List Value} (h : w.ownsRow base e size v n xs) (hb : Below w.heap.size w w2) : w2.ownsRow base e size v n xs := by
  refine ⟨h.1, ?_⟩
  rcases h.2 with h2 | ⟨g, cap, cur, hv, hg, hh, r⟩
  · exact Or.inl h2
  · exact Or.inr ⟨g, cap, cur, hv, hg, by rw [hb.block g (Array.getElem?_eq_some_iff.1 hh).1]; exact hh, r⟩
theorem own_base {w : World} {base base2 : Nat} {e : TypeId} {size : Nat} {v : Value} {n : Nat} {xs : List Value} (h : w.ownsRow base e size v n xs) (hb : base2 ≤ base) : w.ownsRow base2 e size v n xs := by
  refine ⟨h.1, ?_⟩
  rcases h.2 with h2 | ⟨g, cap, cur, hv, hg, r⟩
  · exact Or.inl h2
  · exact Or.inr ⟨g, cap, cur, hv, by omega, r⟩

section
variable {w wr : World} {B g wd c k : Nat}

/-- a bit is stored -/
theorem part_store (hk : k < wd) (h : wr.ownsRow B 4 1 (sl g wd) wd (partL wd c k)) :
    (wr.setCell ⟨g, k, none⟩ (.bool (tb c k))).ownsRow B 4 1 (sl g wd) wd (partL wd c (k + 1)) := by
  have e := (h.stored k (.bool (tb c k))).1
  rw [partL_set wd c k hk] at e
  exact e
theorem part_put (hk : k < wd) (h : wr.ownsRow B 4 1 (sl g wd) wd (partL wd c k)) {x : Bool} (hx : x = tb c k) :
    (wr.setCell ⟨g, k, none⟩ (.bool x)).ownsRow B 4 1 (sl g wd) wd (partL wd c (k + 1)) := by
  rw [hx]; exact part_store hk h
theorem own_ge {xs : List Value} (h : wr.ownsRow B 4 1 (sl g wd) wd xs) : B ≤ g ∧ g < wr.heap.size := h.lt g rfl
theorem part_cell (hk : k < wd) {j : Nat} (h : wr.ownsRow B 4 1 (sl g wd) wd (partL wd c j)) : wr.cell? ⟨g, k, none⟩ = some (.bool (decide (k < j) && tb c k)) := by
  rw [h.cellAt k (by omega), partL_at wd c j k hk]
theorem row_cell (hk : k < wd) (h : wr.ownsRow B 4 1 (sl g wd) wd (rowL wd c)) : wr.cell? ⟨g, k, none⟩ = some (.bool (tb c k)) := by
  rw [h.cellAt k (by omega), rowL_at wd c k hk]
end

theorem bits_at (l : List Bool) (i : Nat) (h : i < l.length) : (l.map Value.bool)[i]? = some (.bool (l[i]?.getD false)) := by
  rw [List.getElem?_map, List.getElem?_eq_getElem h]; rfl

theorem start_bit (wd k : Nat) (h : k < wd) : tb (plain.startOf wd) k = true := by
  unfold tb
  unfold plain.startOf; rw [Nat.testBit_two_pow_sub_one]; simp [h]

/-- the next bit of the row -/
theorem next_bit (wd mix c k : Nat) (b : Bool) (t1 : Bool) (hc : c < 2 ^ wd) (hk : k < wd) (ht : t1 = mix.testBit k) :
    ((decide (k + 1 < wd) && tb c (k + 1)) != ((!(tb c 0 == b)) && t1)) = tb (plain.stepB mix c b) k := by
  unfold tb
  show ((decide (k + 1 < wd) && c.testBit (k + 1)) != ((c.testBit 0 != b) && t1)) = _
  rw [plain.stepB_testBit, ht]
  by_cases h : k + 1 < wd
  · simp [h]
  · have e : c.testBit (k + 1) = false := Nat.testBit_lt_two_pow (Nat.lt_of_lt_of_le hc (Nat.pow_le_pow_right (by decide) (by omega)))
    simp [h, e]

theorem crc_next (mix c : Nat) (l : List Bool) (i : Nat) (h : i < l.length) : plain.crcB mix c (l.take (i + 1)) = plain.stepB mix (plain.crcB mix c (l.take i)) (l[i]?.getD false) := by
  rw [List.take_succ_eq_append_getElem h, plain.crcB_snoc, List.getElem?_eq_getElem h]; rfl

end Go.Proofs.Ytgpojbgjfibblaa.bits
