/-
  A sender whole: its contexts in a row, which one a packet goes on, what becomes of them.
  No condition but those in each theorem.
-/
import Derived.Test.YtgpojbgjfibblaaCtxSent
namespace Go.Proofs.Ytgpojbgjfibblaa.texts
open Go.RowKit
set_option linter.unusedVariables false

structure Snd where
  cids : Nat
  keep : Nat
  refresh : Nat
  cs : List Cx
structure Snd.ok (m : Snd) : Prop where
  c1 : 1 ≤ m.cids
  c8 : m.cids ≤ 8
  k1 : 1 ≤ m.keep
  k4 : m.keep ≤ 4
  r2 : 2 ≤ m.refresh
  r100 : m.refresh ≤ 100
  len : m.cs.length = 8
  each : ∀ c ∈ m.cs, c.ok
def Snd.row (m : Snd) : List Value := [.int .i64 m.cids, .int .i64 m.keep, .int .i64 m.refresh] ++ m.cs.flatMap (fun c => c.cells.toList)
def Snd.cells (m : Snd) : Array Value := m.row.toArray

def Snd.at_ (m : Snd) (i : Nat) : Cx := m.cs.getD i Cx.blank
theorem Snd.at_mem {m : Snd} {i : Nat} (h : i < m.cs.length) : m.at_ i ∈ m.cs := by
  have e : m.at_ i = m.cs[i] := by unfold Snd.at_; simp [List.getD_eq_getElem?_getD, h]
  rw [e]
  exact List.getElem_mem h
theorem Snd.at_ok {m : Snd} (hm : m.ok) (i : Nat) : (m.at_ i).ok := by
  by_cases h : i < m.cs.length
  · exact hm.each _ (Snd.at_mem h)
  · have e : m.at_ i = Cx.blank := by unfold Snd.at_; rw [List.getD_eq_getElem?_getD, List.getElem?_eq_none (by omega)]; rfl
    rw [e]
    exact Cx.blank_ok

theorem flat_get (l : List Cx) : ∀ (i j : Nat), i < l.length → j < 30 → (l.flatMap (fun c => c.cells.toList))[30 * i + j]? = (l.getD i Cx.blank).cells[j]? := by
  induction l with
  | nil => intro i j h; simp at h
  | cons c l ih =>
    intro i j h hj
    rw [List.flatMap_cons]
    cases i with
    | zero =>
      rw [List.getElem?_append_left (by rw [Array.length_toList, Cx.cells_size]; omega)]
      simp
    | succ i =>
      rw [List.getElem?_append_right (by rw [Array.length_toList, Cx.cells_size]; omega), Array.length_toList, Cx.cells_size]
      have := ih i j (by simpa using h) hj
      rw [show 30 * (i + 1) + j - 30 = 30 * i + j by omega, this]
      simp
theorem flat_length (l : List Cx) : (l.flatMap (fun c => c.cells.toList)).length = 30 * l.length := by
  induction l with
  | nil => rfl
  | cons c l ih => rw [List.flatMap_cons, List.length_append, ih, Array.length_toList, Cx.cells_size]; simp; omega
theorem Snd.cells_size (m : Snd) : m.cells.size = 3 + 30 * m.cs.length := by
  simp only [Snd.cells, Snd.row, List.size_toArray, List.length_append, flat_length]
  rfl
theorem Snd.get (m : Snd) (i j : Nat) (hi : i < m.cs.length) (hj : j < 30) : m.cells[3 + 30 * i + j]? = (m.at_ i).cells[j]? := by
  simp only [Snd.cells, Snd.row, List.getElem?_toArray]
  rw [List.getElem?_append_right (by simp; omega)]
  rw [show 3 + 30 * i + j - ([.int .i64 m.cids, .int .i64 m.keep, .int .i64 m.refresh] : List Value).length = 30 * i + j by simp; omega]
  exact flat_get _ _ _ hi hj
theorem Snd.get0 (m : Snd) (j : Nat) (hj : j < 3) : m.cells[j]? = ([.int .i64 m.cids, .int .i64 m.keep, .int .i64 m.refresh] : List Value)[j]? := by
  simp only [Snd.cells, Snd.row, List.getElem?_toArray]
  rw [List.getElem?_append_left (by simp; omega)]

/-- the row is told by its cells -/
theorem Snd.cells_ext {m : Snd} {C : Array Value} (hs : C.size = 3 + 30 * m.cs.length) (h0 : ∀ j, j < 3 → C[j]? = m.cells[j]?) (h1 : ∀ i j, i < m.cs.length → j < 30 → C[3 + 30 * i + j]? = (m.at_ i).cells[j]?) : C = m.cells := by
  apply Array.ext_getElem?
  intro k
  by_cases hk : k < 3
  · exact h0 k hk
  · by_cases hk2 : k < 3 + 30 * m.cs.length
    · have e : k = 3 + 30 * ((k - 3) / 30) + (k - 3) % 30 := by omega
      rw [e, h1 _ _ (by omega) (by omega), Snd.get m _ _ (by omega) (by omega)]
    · rw [Array.getElem?_eq_none (by omega), Array.getElem?_eq_none (by rw [Snd.cells_size]; omega)]

theorem putRow_get (vs : List Value) : ∀ (C : Array Value) (o k : Nat), o + vs.length ≤ C.size → (putRow C o vs)[k]? = if o ≤ k ∧ k < o + vs.length then vs[k - o]? else C[k]? := by
  induction vs with
  | nil => intro C o k h; rw [putRow, if_neg (by simp only [List.length_nil]; omega)]
  | cons v vs ih =>
    intro C o k h
    simp only [List.length_cons] at h
    rw [putRow, ih _ _ _ (by simp; omega)]
    by_cases h1 : o ≤ k ∧ k < o + (v :: vs).length
    · rw [if_pos h1]
      simp only [List.length_cons] at h1
      by_cases h2 : k = o
      · subst h2
        rw [if_neg (by omega), Array.getElem?_setIfInBounds_self_of_lt (by omega)]
        simp
      · rw [if_pos (by omega), show k - o = (k - (o + 1)) + 1 by omega]
        simp
    · rw [if_neg h1]
      simp only [List.length_cons] at h1
      rw [if_neg (by omega), Array.getElem?_setIfInBounds_ne (by omega)]

def Snd.set (m : Snd) (i : Nat) (c : Cx) : Snd := { m with cs := m.cs.set i c }
theorem Snd.set_at (m : Snd) (i j : Nat) (c : Cx) (hi : i < m.cs.length) : (m.set i c).at_ j = if j = i then c else m.at_ j := by
  unfold Snd.at_ Snd.set
  simp only [List.getD_eq_getElem?_getD, List.getElem?_set]
  by_cases h : j = i
  · subst h; simp [hi]
  · rw [if_neg h, if_neg (fun e => h e.symm)]
theorem Snd.set_ok {m : Snd} (hm : m.ok) (i : Nat) {c : Cx} (hc : c.ok) : (m.set i c).ok :=
  ⟨hm.c1, hm.c8, hm.k1, hm.k4, hm.r2, hm.r100, by simp [Snd.set, hm.len], fun d hd => by
    rcases List.mem_or_eq_of_mem_set hd with h | h
    · exact hm.each d h
    · rw [h]; exact hc⟩
/-- a context is stored whole -/
theorem Snd.put (m : Snd) (i : Nat) (c : Cx) (hi : i < m.cs.length) : putRow m.cells (3 + 30 * i) c.cells.toList = (m.set i c).cells := by
  have hl : c.cells.toList.length = 30 := by rw [Array.length_toList, Cx.cells_size]
  refine Snd.cells_ext ?_ ?_ ?_
  · rw [putRow_size, Snd.cells_size]; simp [Snd.set]
  · intro j hj
    rw [putRow_get _ _ _ _ (by rw [hl, Snd.cells_size]; omega), if_neg (by omega), Snd.get0 _ _ hj, Snd.get0 _ _ hj]
    rfl
  · intro i' j hi' hj
    have hi2 : i' < m.cs.length := by simpa [Snd.set] using hi'
    rw [putRow_get _ _ _ _ (by rw [hl, Snd.cells_size]; omega), hl, Snd.set_at _ _ _ _ hi]
    by_cases h : i' = i
    · subst h
      rw [if_pos (by omega), if_pos rfl, show 3 + 30 * i' + j - (3 + 30 * i') = j by omega]
      simp
    · rw [if_neg (by omega), if_neg h, Snd.get _ _ _ hi2 hj]
/-- one cell of a context is stored -/
theorem Snd.put1 (m : Snd) (i j : Nat) (c : Cx) (v : Value) (hi : i < m.cs.length) (hj : j < 30) (hc : c.cells = (m.at_ i).cells.setIfInBounds j v) : m.cells.setIfInBounds (3 + 30 * i + j) v = (m.set i c).cells := by
  refine Snd.cells_ext ?_ ?_ ?_
  · rw [Array.size_setIfInBounds, Snd.cells_size]; simp [Snd.set]
  · intro k hk
    rw [Array.getElem?_setIfInBounds_ne (by omega), Snd.get0 _ _ hk, Snd.get0 _ _ hk]
    rfl
  · intro i' k hi' hk
    have hi2 : i' < m.cs.length := by simpa [Snd.set] using hi'
    rw [Snd.set_at _ _ _ _ hi]
    by_cases h : i' = i
    · subst h
      rw [if_pos rfl, hc]
      by_cases h2 : k = j
      · subst h2
        rw [Array.getElem?_setIfInBounds_self_of_lt (by rw [Snd.cells_size]; omega), Array.getElem?_setIfInBounds_self_of_lt (by rw [Cx.cells_size]; omega)]
      · rw [Array.getElem?_setIfInBounds_ne (by omega), Array.getElem?_setIfInBounds_ne (by omega), Snd.get _ _ _ hi2 hk]
    · rw [if_neg h, Array.getElem?_setIfInBounds_ne (by omega), Snd.get _ _ _ hi2 hk]

/-- the oldest of the first k -/
def oldN (m : Snd) : Nat → Nat
  | 0 => 0
  | k + 1 => if (m.at_ (oldN m k)).rank < (m.at_ k).rank then k else oldN m k
theorem oldN_le (m : Snd) (k : Nat) : oldN m k ≤ k - 1 := by
  induction k with
  | zero => exact Nat.le_refl 0
  | succ k ih => unfold oldN; split <;> omega
/-- the context on which a packet goes -/
def chooseN (m : Snd) (a b d : Nat) : Nat := let i := m.cs.findIdx (fun c => c.hasB a b d); if i < 8 then i else oldN m m.cids
/-- the contexts that were sent on since have one more ahead of them -/
def fallC (r : Nat) (c : Cx) : Cx := if c.rank < r then { c with rank := c.rank + 1 } else c
def fallN (m : Snd) (r : Nat) : Snd := { m with cs := m.cs.map (fallC r) }
/-- the context as a packet finds it -/
def metN (m : Snd) (p : Pk) : Cx := let c := m.at_ (chooseN m p.src p.dst p.port); if c.hasB p.src p.dst p.port = true then c else beginN c p.src p.dst p.port m.keep
def nextN (m : Snd) (p : Pk) : St := stateN p (strideN (metN m p) p)
def sendK (m : Snd) (p : Pk) : Nat := kindN (metN m p) (nextN m p) m.refresh
/-- a packet is sent: the frame, the sender behind it -/
def sendF (m : Snd) (p : Pk) : List UInt8 := frameN (sendK m p) (metN m p).turn (chooseN m p.src p.dst p.port) (nextN m p) p
def sendM (m : Snd) (p : Pk) : Snd := (fallN m (metN m p).rank).set (chooseN m p.src p.dst p.port) (sentN (metN m p) (sendK m p) (nextN m p) m.keep)

theorem chooseN_lt {m : Snd} (hm : m.ok) (a b d : Nat) : chooseN m a b d < 8 := by
  unfold chooseN
  simp only
  split
  · assumption
  · have := oldN_le m m.cids
    have := hm.c8
    have := hm.c1
    omega

end Go.Proofs.Ytgpojbgjfibblaa.texts
