/-
  A sender whole: its contexts in a row, which one a packet goes on, what becomes of them. What always holds of a sender's contexts: which have flows, how their ranks lie.
  Conditions stand in each theorem.
-/
import Derived.Test.YtgpojbgjfibblabGreatCtxSent
namespace Go.Proofs.YtgpojbgjfibblabGreat.texts
open Go.RowKit
set_option linter.unusedVariables false

structure Snd where
  cids : Nat
  keep : Nat
  refresh : Nat
  cs : List Cx
structure Snd.ok (m : Snd) : Prop where
  c1 : 1 ≤ m.cids
  c8 : m.cids ≤ 8
  k1 : 1 ≤ m.keep
  k4 : m.keep ≤ 4
  r2 : 2 ≤ m.refresh
  r100 : m.refresh ≤ 100
  len : m.cs.length = 8
  each : ∀ c ∈ m.cs, c.ok
def Snd.row (m : Snd) : List Value := [.int .i64 m.cids, .int .i64 m.keep, .int .i64 m.refresh] ++ m.cs.flatMap (fun c => c.cells.toList)
def Snd.cells (m : Snd) : Array Value := m.row.toArray

def Snd.at_ (m : Snd) (i : Nat) : Cx := m.cs.getD i Cx.blank
theorem Snd.at_mem {m : Snd} {i : Nat} (h : i < m.cs.length) : m.at_ i ∈ m.cs := by
  have e : m.at_ i = m.cs[i] := by unfold Snd.at_; simp [List.getD_eq_getElem?_getD, h]
  rw [e]
  exact List.getElem_mem h
theorem Snd.at_ok {m : Snd} (hm : m.ok) (i : Nat) : (m.at_ i).ok := by
  by_cases h : i < m.cs.length
  · exact hm.each _ (Snd.at_mem h)
  · have e : m.at_ i = Cx.blank := by unfold Snd.at_; rw [List.getD_eq_getElem?_getD, List.getElem?_eq_none (by omega)]; rfl
    rw [e]
    exact Cx.blank_ok

theorem flat_get (l : List Cx) : ∀ (i j : Nat), i < l.length → j < 30 → (l.flatMap (fun c => c.cells.toList))[30 * i + j]? = (l.getD i Cx.blank).cells[j]? := by
  induction l with
  | nil => intro i j h; simp at h
  | cons c l ih =>
    intro i j h hj
    rw [List.flatMap_cons]
    cases i with
    | zero =>
      rw [List.getElem?_append_left (by rw [Array.length_toList, Cx.cells_size]; omega)]
      simp
    | succ i =>
      rw [List.getElem?_append_right (by rw [Array.length_toList, Cx.cells_size]; omega), Array.length_toList, Cx.cells_size]
      have := ih i j (by simpa using h) hj
      rw [show 30 * (i + 1) + j - 30 = 30 * i + j by omega, this]
      simp
theorem flat_length (l : List Cx) : (l.flatMap (fun c => c.cells.toList)).length = 30 * l.length := by
  induction l with
  | nil => rfl
  | cons c l ih => rw [List.flatMap_cons, List.length_append, ih, Array.length_toList, Cx.cells_size]; simp; omega
theorem Snd.cells_size (m : Snd) : m.cells.size = 3 + 30 * m.cs.length := by
  simp only [Snd.cells, Snd.row, List.size_toArray, List.length_append, flat_length]
  rfl
theorem Snd.get (m : Snd) (i j : Nat) (hi : i < m.cs.length) (hj : j < 30) : m.cells[3 + 30 * i + j]? = (m.at_ i).cells[j]? := by
  simp only [Snd.cells, Snd.row, List.getElem?_toArray]
  rw [List.getElem?_append_right (by simp; omega)]
  rw [show 3 + 30 * i + j - ([.int .i64 m.cids, .int .i64 m.keep, .int .i64 m.refresh] : List Value).length = 30 * i + j by simp; omega]
  exact flat_get _ _ _ hi hj
theorem Snd.get0 (m : Snd) (j : Nat) (hj : j < 3) : m.cells[j]? = ([.int .i64 m.cids, .int .i64 m.keep, .int .i64 m.refresh] : List Value)[j]? := by
  simp only [Snd.cells, Snd.row, List.getElem?_toArray]
  rw [List.getElem?_append_left (by simp; omega)]

/-- the row is told by its cells -/
theorem Snd.cells_ext {m : Snd} {C : Array Value} (hs : C.size = 3 + 30 * m.cs.length) (h0 : ∀ j, j < 3 → C[j]? = m.cells[j]?) (h1 : ∀ i j, i < m.cs.length → j < 30 → C[3 + 30 * i + j]? = (m.at_ i).cells[j]?) : C = m.cells := by
  apply Array.ext_getElem?
  intro k
  by_cases hk : k < 3
  · exact h0 k hk
  · by_cases hk2 : k < 3 + 30 * m.cs.length
    · have e : k = 3 + 30 * ((k - 3) / 30) + (k - 3) % 30 := by omega
      rw [e, h1 _ _ (by omega) (by omega), Snd.get m _ _ (by omega) (by omega)]
    · rw [Array.getElem?_eq_none (by omega), Array.getElem?_eq_none (by rw [Snd.cells_size]; omega)]

theorem putRow_get (vs : List Value) : ∀ (C : Array Value) (o k : Nat), o + vs.length ≤ C.size → (putRow C o vs)[k]? = if o ≤ k ∧ k < o + vs.length then vs[k - o]? else C[k]? := by
  induction vs with
  | nil => intro C o k h; rw [putRow, if_neg (by simp only [List.length_nil]; omega)]
  | cons v vs ih =>
    intro C o k h
    simp only [List.length_cons] at h
    rw [putRow, ih _ _ _ (by simp; omega)]
    by_cases h1 : o ≤ k ∧ k < o + (v :: vs).length
    · rw [if_pos h1]
      simp only [List.length_cons] at h1
      by_cases h2 : k = o
      · subst h2
        rw [if_neg (by omega), Array.getElem?_setIfInBounds_self_of_lt (by omega)]
        simp
      · rw [if_pos (by omega), show k - o = (k - (o + 1)) + 1 by omega]
        simp
    · rw [if_neg h1]
      simp only [List.length_cons] at h1
      rw [if_neg (by omega), Array.getElem?_setIfInBounds_ne (by omega)]

def Snd.set (m : Snd) (i : Nat) (c : Cx) : Snd := { m with cs := m.cs.set i c }
theorem Snd.set_at (m : Snd) (i j : Nat) (c : Cx) (hi : i < m.cs.length) : (m.set i c).at_ j = if j = i then c else m.at_ j := by
  unfold Snd.at_ Snd.set
  simp only [List.getD_eq_getElem?_getD, List.getElem?_set]
  by_cases h : j = i
  · subst h; simp [hi]
  · rw [if_neg h, if_neg (fun e => h e.symm)]
theorem Snd.set_ok {m : Snd} (hm : m.ok) (i : Nat) {c : Cx} (hc : c.ok) : (m.set i c).ok :=
  ⟨hm.c1, hm.c8, hm.k1, hm.k4, hm.r2, hm.r100, by simp [Snd.set, hm.len], fun d hd => by
    rcases List.mem_or_eq_of_mem_set hd with h | h
    · exact hm.each d h
    · rw [h]; exact hc⟩
/-- a context is stored whole -/
theorem Snd.put (m : Snd) (i : Nat) (c : Cx) (hi : i < m.cs.length) : putRow m.cells (3 + 30 * i) c.cells.toList = (m.set i c).cells := by
  have hl : c.cells.toList.length = 30 := by rw [Array.length_toList, Cx.cells_size]
  refine Snd.cells_ext ?_ ?_ ?_
  · rw [putRow_size, Snd.cells_size]; simp [Snd.set]
  · intro j hj
    rw [putRow_get _ _ _ _ (by rw [hl, Snd.cells_size]; omega), if_neg (by omega), Snd.get0 _ _ hj, Snd.get0 _ _ hj]
    rfl
  · intro i' j hi' hj
    have hi2 : i' < m.cs.length := by simpa [Snd.set] using hi'
    rw [putRow_get _ _ _ _ (by rw [hl, Snd.cells_size]; omega), hl, Snd.set_at _ _ _ _ hi]
    by_cases h : i' = i
    · subst h
      rw [if_pos (by omega), if_pos rfl, show 3 + 30 * i' + j - (3 + 30 * i') = j by omega]
      simp
    · rw [if_neg (by omega), if_neg h, Snd.get _ _ _ hi2 hj]
/-- one cell of a context is stored -/
theorem Snd.put1 (m : Snd) (i j : Nat) (c : Cx) (v : Value) (hi : i < m.cs.length) (hj : j < 30) (hc : c.cells = (m.at_ i).cells.setIfInBounds j v) : m.cells.setIfInBounds (3 + 30 * i + j) v = (m.set i c).cells := by
  refine Snd.cells_ext ?_ ?_ ?_
  · rw [Array.size_setIfInBounds, Snd.cells_size]; simp [Snd.set]
  · intro k hk
    rw [Array.getElem?_setIfInBounds_ne (by omega), Snd.get0 _ _ hk, Snd.get0 _ _ hk]
    rfl
  · intro i' k hi' hk
    have hi2 : i' < m.cs.length := by simpa [Snd.set] using hi'
    rw [Snd.set_at _ _ _ _ hi]
    by_cases h : i' = i
    · subst h
      rw [if_pos rfl, hc]
      by_cases h2 : k = j
      · subst h2
        rw [Array.getElem?_setIfInBounds_self_of_lt (by rw [Snd.cells_size]; omega), Array.getElem?_setIfInBounds_self_of_lt (by rw [Cx.cells_size]; omega)]
      · rw [Array.getElem?_setIfInBounds_ne (by omega), Array.getElem?_setIfInBounds_ne (by omega), Snd.get _ _ _ hi2 hk]
    · rw [if_neg h, Array.getElem?_setIfInBounds_ne (by omega), Snd.get _ _ _ hi2 hk]

/-- the oldest of the first k -/
def oldN (m : Snd) : Nat → Nat
  | 0 => 0
  | k + 1 => if (m.at_ (oldN m k)).rank < (m.at_ k).rank then k else oldN m k
theorem oldN_le (m : Snd) (k : Nat) : oldN m k ≤ k - 1 := by
  induction k with
  | zero => exact Nat.le_refl 0
  | succ k ih => unfold oldN; split <;> omega
/-- the context on which a packet goes -/
def chooseN (m : Snd) (a b d : Nat) : Nat := let i := m.cs.findIdx (fun c => c.hasB a b d); if i < 8 then i else oldN m m.cids
/-- the contexts that were sent on since have one more ahead of them -/
def fallC (r : Nat) (c : Cx) : Cx := if c.rank < r then { c with rank := c.rank + 1 } else c
def fallN (m : Snd) (r : Nat) : Snd := { m with cs := m.cs.map (fallC r) }
/-- the context as a packet finds it -/
def metN (m : Snd) (p : Pk) : Cx := let c := m.at_ (chooseN m p.src p.dst p.port); if c.hasB p.src p.dst p.port = true then c else beginN c p.src p.dst p.port m.keep
def nextN (m : Snd) (p : Pk) : St := stateN p (strideN (metN m p) p)
def sendK (m : Snd) (p : Pk) : Nat := kindN (metN m p) (nextN m p) m.refresh
/-- a packet is sent: the frame, the sender behind it -/
def sendF (m : Snd) (p : Pk) : List UInt8 := frameN (sendK m p) (metN m p).turn (chooseN m p.src p.dst p.port) (nextN m p) p
def sendM (m : Snd) (p : Pk) : Snd := (fallN m (metN m p).rank).set (chooseN m p.src p.dst p.port) (sentN (metN m p) (sendK m p) (nextN m p) m.keep)

theorem chooseN_lt {m : Snd} (hm : m.ok) (a b d : Nat) : chooseN m a b d < 8 := by
  unfold chooseN
  simp only
  split
  · assumption
  · have := oldN_le m m.cids
    have := hm.c8
    have := hm.c1
    omega

end Go.Proofs.YtgpojbgjfibblabGreat.texts

namespace Go.Proofs.YtgpojbgjfibblabGreat.texts
open Go.RowKit
set_option linter.unusedVariables false

/-- the oldest of the first n: its rank is the greatest, and it is the first of that rank -/
theorem old_spec (m : Snd) : ∀ n, 1 ≤ n → oldN m n < n ∧ ∀ i, i < n → (m.at_ i).rank ≤ (m.at_ (oldN m n)).rank ∧ ((m.at_ i).rank = (m.at_ (oldN m n)).rank → oldN m n ≤ i) := by
  intro n
  induction n with
  | zero => intro h; omega
  | succ n ih =>
    intro _
    by_cases h0 : n = 0
    · subst h0
      have e : oldN m 1 = 0 := by simp [oldN]
      rw [e]
      refine ⟨by omega, fun i hi => ?_⟩
      have : i = 0 := by omega
      subst this
      exact ⟨Nat.le_refl _, fun _ => Nat.le_refl _⟩
    · obtain ⟨h1, h2⟩ := ih (by omega)
      have e : oldN m (n + 1) = if (m.at_ (oldN m n)).rank < (m.at_ n).rank then n else oldN m n := rfl
      rw [e]
      by_cases hc : (m.at_ (oldN m n)).rank < (m.at_ n).rank
      · rw [if_pos hc]
        refine ⟨by omega, fun i hi => ?_⟩
        by_cases hin : i = n
        · subst hin; exact ⟨Nat.le_refl _, fun _ => Nat.le_refl _⟩
        · have := (h2 i (by omega)).1
          exact ⟨by omega, fun _ => by omega⟩
      · rw [if_neg hc]
        refine ⟨by omega, fun i hi => ?_⟩
        by_cases hin : i = n
        · subst hin; exact ⟨by omega, fun _ => by omega⟩
        · exact h2 i (by omega)

/-- the first k contexts have flows, of different routes; their ranks are the numbers below k, each once; the others are as they were made -/
structure Fit (m : Snd) (k : Nat) : Prop where
  le : k ≤ m.cids
  has : ∀ i, i < k → 0 < (m.at_ i).kept
  blank : ∀ i, k ≤ i → i < 8 → m.at_ i = Cx.blank
  low : ∀ i, i < k → (m.at_ i).rank < k
  inj : ∀ i j, i < k → j < k → (m.at_ i).rank = (m.at_ j).rank → i = j
  uniq : ∀ i j, i < k → j < k → (m.at_ i).src = (m.at_ j).src → (m.at_ i).dst = (m.at_ j).dst → (m.at_ i).port = (m.at_ j).port → i = j

/-- a sender without flows -/
def freshN (cids keep refresh : Nat) : Snd := ⟨cids, keep, refresh, List.replicate 8 Cx.blank⟩
theorem fresh_at (c k r i : Nat) : (freshN c k r).at_ i = Cx.blank := by
  unfold freshN Snd.at_
  simp only [List.getD_eq_getElem?_getD, List.getElem?_replicate]
  split <;> rfl
theorem fresh_ok {c k r : Nat} (h1 : 1 ≤ c) (h2 : c ≤ 8) (h3 : 1 ≤ k) (h4 : k ≤ 4) (h5 : 2 ≤ r) (h6 : r ≤ 100) : (freshN c k r).ok :=
  ⟨h1, h2, h3, h4, h5, h6, by simp [freshN], fun d hd => by rw [List.eq_of_mem_replicate hd]; exact Cx.blank_ok⟩
theorem fresh_fit (c k r : Nat) : Fit (freshN c k r) 0 :=
  ⟨by omega, fun i h => by omega, fun i _ _ => fresh_at c k r i, fun i h => by omega, fun i j h => by omega, fun i j h => by omega⟩

theorem blank_has (a b d : Nat) : Cx.blank.hasB a b d = false := by simp [Cx.hasB, Cx.blank]
/-- a route that is known: its own context -/
theorem choose_known {m : Snd} (hm : m.ok) {k : Nat} (hf : Fit m k) {a b d i : Nat} (hi : i < k) (hr : (m.at_ i).src = a ∧ (m.at_ i).dst = b ∧ (m.at_ i).port = d) : chooseN m a b d = i := by
  have hk8 : k ≤ 8 := Nat.le_trans hf.le hm.c8
  have hl := hm.len
  have g : ∀ j (h : j < m.cs.length), m.cs[j] = m.at_ j := fun j h => by simp [Snd.at_, List.getD_eq_getElem?_getD, h]
  have e : m.cs.findIdx (fun c => c.hasB a b d) = i := by
    rw [List.findIdx_eq (by omega)]
    refine ⟨by rw [g]; simp [Cx.hasB, hf.has i hi, hr], fun j hj => ?_⟩
    rw [g]
    simp only [Cx.hasB, decide_eq_false_iff_not]
    rintro ⟨_, h2, h3, h4⟩
    have := hf.uniq j i (by omega) hi (by omega) (by omega) (by omega)
    omega
  unfold chooseN
  simp only [e]
  rw [if_pos (by omega)]
/-- a new route: the first context that has had no flow, or else the one of the greatest rank -/
theorem choose_new {m : Snd} (hm : m.ok) {k : Nat} (hf : Fit m k) {a b d : Nat} (hn : ∀ i, i < k → ¬ ((m.at_ i).src = a ∧ (m.at_ i).dst = b ∧ (m.at_ i).port = d)) :
    (k < m.cids → chooseN m a b d = k) ∧ (k = m.cids → chooseN m a b d < k ∧ ∀ i, i < k → (m.at_ i).rank ≤ (m.at_ (chooseN m a b d)).rank) := by
  have hk8 : k ≤ 8 := Nat.le_trans hf.le hm.c8
  have hc8 := hm.c8
  have hc1 := hm.c1
  have hl := hm.len
  have e : m.cs.findIdx (fun c => c.hasB a b d) = m.cs.length := by
    rw [List.findIdx_eq_length]
    intro c hc
    obtain ⟨j, hj, rfl⟩ := List.getElem_of_mem hc
    have g : m.cs[j] = m.at_ j := by simp [Snd.at_, List.getD_eq_getElem?_getD, hj]
    rw [g]
    by_cases hjk : j < k
    · simp only [Cx.hasB, decide_eq_false_iff_not]
      rintro ⟨_, h2⟩
      exact hn j hjk h2
    · rw [hf.blank j (by omega) (by omega)]
      exact blank_has a b d
  have e2 : chooseN m a b d = oldN m m.cids := by
    unfold chooseN
    simp only [e]
    rw [if_neg (by omega)]
  rw [e2]
  obtain ⟨h1, h2⟩ := old_spec m m.cids hc1
  refine ⟨fun hlt => ?_, fun heq => ?_⟩
  · have hb : (m.at_ k).rank = 8 := by rw [hf.blank k (Nat.le_refl _) (by omega)]; rfl
    have h3 := h2 k hlt
    have h4 := (Snd.at_ok hm (oldN m m.cids)).rank
    have h5 : oldN m m.cids ≤ k := h3.2 (by omega)
    by_cases h6 : oldN m m.cids = k
    · exact h6
    · have := hf.low (oldN m m.cids) (by omega)
      omega
  · rw [heq]
    rw [heq] at hf
    exact ⟨h1, fun i hi => (h2 i hi).1⟩

theorem fall_rank (r : Nat) (c : Cx) : (fallC r c).rank = if c.rank < r then c.rank + 1 else c.rank := by
  unfold fallC; split <;> rfl
theorem fall_rest (r : Nat) (c : Cx) : (fallC r c).src = c.src ∧ (fallC r c).dst = c.dst ∧ (fallC r c).port = c.port ∧ (fallC r c).kept = c.kept := by
  unfold fallC; split <;> exact ⟨rfl, rfl, rfl, rfl⟩
theorem fall_blank {r : Nat} (h : r ≤ 8) : fallC r Cx.blank = Cx.blank := by
  unfold fallC; rw [if_neg (by show ¬ (8 < r); omega)]

/-- a context that has a flow is sent on: its rank is 0 now, those ahead of it fall back -/
theorem fit_old {m m' : Snd} {k i r : Nat} {X : Cx} (hm : m.ok) (hf : Fit m k) (hc : m'.cids = m.cids) (hat : ∀ j, j < 8 → m'.at_ j = if j = i then X else fallC r (m.at_ j)) (h0 : X.rank = 0) (hk : 0 < X.kept) (hi : i < k) (hr : r = (m.at_ i).rank)
    (hu : ∀ j, j < k → j ≠ i → ¬ ((m.at_ j).src = X.src ∧ (m.at_ j).dst = X.dst ∧ (m.at_ j).port = X.port)) : Fit m' k := by
  have hk8 : k ≤ 8 := Nat.le_trans hf.le hm.c8
  have hil := hf.low i hi
  have rk : ∀ j, j < k → (m'.at_ j).rank = if j = i then 0 else if (m.at_ j).rank < r then (m.at_ j).rank + 1 else (m.at_ j).rank := by
    intro j hj
    rw [hat j (by omega)]
    by_cases e : j = i
    · rw [if_pos e, if_pos e, h0]
    · rw [if_neg e, if_neg e, fall_rank]
  refine ⟨by rw [hc]; exact hf.le, fun j hj => ?_, fun j hj hj8 => ?_, fun j hj => ?_, fun j l hj hl he => ?_, fun j l hj hl h1 h2 h3 => ?_⟩
  · rw [hat j (by omega)]
    split
    · exact hk
    · rw [(fall_rest r _).2.2.2]; exact hf.has j hj
  · rw [hat j hj8, if_neg (by omega), hf.blank j hj hj8]
    exact fall_blank (by omega)
  · rw [rk j hj]
    have := hf.low j hj
    split
    · omega
    · split <;> omega
  · rw [rk j hj, rk l hl] at he
    by_cases e1 : j = i
    · by_cases e2 : l = i
      · omega
      · rw [if_pos e1, if_neg e2] at he
        have h1 : ¬ (m.at_ l).rank = (m.at_ i).rank := fun e => e2 (hf.inj l i hl hi e)
        split at he <;> omega
    · by_cases e2 : l = i
      · rw [if_neg e1, if_pos e2] at he
        have h1 : ¬ (m.at_ j).rank = (m.at_ i).rank := fun e => e1 (hf.inj j i hj hi e)
        split at he <;> omega
      · rw [if_neg e1, if_neg e2] at he
        have h1 : ¬ (m.at_ l).rank = (m.at_ i).rank := fun e => e2 (hf.inj l i hl hi e)
        have h2 : ¬ (m.at_ j).rank = (m.at_ i).rank := fun e => e1 (hf.inj j i hj hi e)
        refine hf.inj j l hj hl ?_
        split at he <;> split at he <;> omega
  · rw [hat j (by omega), hat l (by omega)] at h1 h2 h3
    by_cases e1 : j = i
    · by_cases e2 : l = i
      · omega
      · rw [if_pos e1, if_neg e2] at h1 h2 h3
        have f := fall_rest r (m.at_ l)
        exact absurd ⟨f.1 ▸ h1.symm, f.2.1 ▸ h2.symm, f.2.2.1 ▸ h3.symm⟩ (hu l hl e2)
    · by_cases e2 : l = i
      · rw [if_neg e1, if_pos e2] at h1 h2 h3
        have f := fall_rest r (m.at_ j)
        exact absurd ⟨f.1 ▸ h1, f.2.1 ▸ h2, f.2.2.1 ▸ h3⟩ (hu j hj e1)
      · rw [if_neg e1, if_neg e2] at h1 h2 h3
        have f := fall_rest r (m.at_ j)
        have f2 := fall_rest r (m.at_ l)
        rw [f.1, f2.1] at h1
        rw [f.2.1, f2.2.1] at h2
        rw [f.2.2.1, f2.2.2.1] at h3
        exact hf.uniq j l hj hl h1 h2 h3

/-- a context gets its first flow -/
theorem fit_new {m m' : Snd} {k : Nat} {X : Cx} (hm : m.ok) (hf : Fit m k) (hc : m'.cids = m.cids) (hat : ∀ j, j < 8 → m'.at_ j = if j = k then X else fallC 8 (m.at_ j)) (h0 : X.rank = 0) (hk : 0 < X.kept) (hlt : k < m.cids)
    (hu : ∀ j, j < k → ¬ ((m.at_ j).src = X.src ∧ (m.at_ j).dst = X.dst ∧ (m.at_ j).port = X.port)) : Fit m' (k + 1) := by
  have hk8 : k < 8 := Nat.lt_of_lt_of_le hlt hm.c8
  have rk : ∀ j, j < k + 1 → (m'.at_ j).rank = if j = k then 0 else (m.at_ j).rank + 1 := by
    intro j hj
    rw [hat j (by omega)]
    by_cases e : j = k
    · rw [if_pos e, if_pos e, h0]
    · rw [if_neg e, if_neg e, fall_rank, if_pos (by have := hf.low j (by omega); omega)]
  refine ⟨by rw [hc]; omega, fun j hj => ?_, fun j hj hj8 => ?_, fun j hj => ?_, fun j l hj hl he => ?_, fun j l hj hl h1 h2 h3 => ?_⟩
  · rw [hat j (by omega)]
    split
    · exact hk
    · rw [(fall_rest 8 _).2.2.2]; exact hf.has j (by omega)
  · rw [hat j hj8, if_neg (by omega), hf.blank j (by omega) hj8]
    exact fall_blank (by omega)
  · rw [rk j hj]
    split
    · omega
    · have := hf.low j (by omega)
      omega
  · rw [rk j hj, rk l hl] at he
    by_cases e1 : j = k
    · by_cases e2 : l = k
      · omega
      · rw [if_pos e1, if_neg e2] at he; omega
    · by_cases e2 : l = k
      · rw [if_neg e1, if_pos e2] at he; omega
      · rw [if_neg e1, if_neg e2] at he
        exact hf.inj j l (by omega) (by omega) (by omega)
  · rw [hat j (by omega), hat l (by omega)] at h1 h2 h3
    by_cases e1 : j = k
    · by_cases e2 : l = k
      · omega
      · rw [if_pos e1, if_neg e2] at h1 h2 h3
        have f := fall_rest 8 (m.at_ l)
        exact absurd ⟨f.1 ▸ h1.symm, f.2.1 ▸ h2.symm, f.2.2.1 ▸ h3.symm⟩ (hu l (by omega))
    · by_cases e2 : l = k
      · rw [if_neg e1, if_pos e2] at h1 h2 h3
        have f := fall_rest 8 (m.at_ j)
        exact absurd ⟨f.1 ▸ h1, f.2.1 ▸ h2, f.2.2.1 ▸ h3⟩ (hu j (by omega))
      · rw [if_neg e1, if_neg e2] at h1 h2 h3
        have f := fall_rest 8 (m.at_ j)
        have f2 := fall_rest 8 (m.at_ l)
        rw [f.1, f2.1] at h1
        rw [f.2.1, f2.2.1] at h2
        rw [f.2.2.1, f2.2.2.1] at h3
        exact hf.uniq j l (by omega) (by omega) h1 h2 h3

theorem fall_at (m : Snd) (r j : Nat) (h : j < m.cs.length) : (fallN m r).at_ j = fallC r (m.at_ j) := by
  simp only [fallN, Snd.at_, List.getD_eq_getElem?_getD, List.getElem?_map, List.getElem?_eq_getElem h]
  rfl
theorem send_at {m : Snd} (hm : m.ok) (p : Pk) (j : Nat) (hj : j < 8) :
    (sendM m p).at_ j = if j = chooseN m p.src p.dst p.port then sentN (metN m p) (sendK m p) (nextN m p) m.keep else fallC (metN m p).rank (m.at_ j) := by
  have hl := hm.len
  unfold sendM
  rw [Snd.set_at _ _ _ _ (by simp [fallN, hl]; exact chooseN_lt hm _ _ _)]
  split
  · rfl
  · exact fall_at m _ j (by omega)
theorem send_cids (m : Snd) (p : Pk) : (sendM m p).cids = m.cids ∧ (sendM m p).keep = m.keep ∧ (sendM m p).refresh = m.refresh := ⟨rfl, rfl, rfl⟩
theorem sent_rest (c : Cx) (kind : Nat) (n : St) (keep : Nat) (hk : 1 ≤ keep) : (sentN c kind n keep).rank = 0 ∧ 0 < (sentN c kind n keep).kept ∧ (sentN c kind n keep).src = c.src ∧ (sentN c kind n keep).dst = c.dst ∧ (sentN c kind n keep).port = c.port := by
  refine ⟨rfl, ?_, rfl, rfl, rfl⟩
  simp only [sentN, addN]
  split <;> omega

/-- a route is known, or it is new -/
theorem fit_send {m : Snd} (hm : m.ok) {k : Nat} (hf : Fit m k) (p : Pk) :
    (∃ i, i < k ∧ chooseN m p.src p.dst p.port = i ∧ metN m p = m.at_ i ∧ Fit (sendM m p) k) ∨
    (k < m.cids ∧ chooseN m p.src p.dst p.port = k ∧ metN m p = beginN Cx.blank p.src p.dst p.port m.keep ∧ Fit (sendM m p) (k + 1)) ∨
    (k = m.cids ∧ ∃ i, i < k ∧ chooseN m p.src p.dst p.port = i ∧ (∀ j, j < k → (m.at_ j).rank ≤ (m.at_ i).rank) ∧ metN m p = beginN (m.at_ i) p.src p.dst p.port m.keep ∧ Fit (sendM m p) k) := by
  have hk8 : k ≤ 8 := Nat.le_trans hf.le hm.c8
  have hat := send_at hm p
  have sr := sent_rest (metN m p) (sendK m p) (nextN m p) m.keep hm.k1
  by_cases hr : ∃ i, i < k ∧ ((m.at_ i).src = p.src ∧ (m.at_ i).dst = p.dst ∧ (m.at_ i).port = p.port)
  · obtain ⟨i, hi, h1⟩ := hr
    have e := choose_known hm hf hi h1
    have hh : (m.at_ i).hasB p.src p.dst p.port = true := by simp [Cx.hasB, hf.has i hi, h1]
    have em : metN m p = m.at_ i := by unfold metN; rw [e]; simp [hh]
    refine Or.inl ⟨i, hi, e, em, ?_⟩
    rw [e, em] at hat
    rw [em] at sr
    refine fit_old (r := (m.at_ i).rank) hm hf rfl hat sr.1 sr.2.1 hi rfl (fun j hj hne hs => hne (hf.uniq j i hj hi ?_ ?_ ?_))
    · rw [hs.1, sr.2.2.1]
    · rw [hs.2.1, sr.2.2.2.1]
    · rw [hs.2.2, sr.2.2.2.2]
  · have hn : ∀ i, i < k → ¬ ((m.at_ i).src = p.src ∧ (m.at_ i).dst = p.dst ∧ (m.at_ i).port = p.port) := fun i hi h => hr ⟨i, hi, h⟩
    obtain ⟨c1, c2⟩ := choose_new hm hf hn
    by_cases hlt : k < m.cids
    · have e := c1 hlt
      have hb := hf.blank k (Nat.le_refl _) (by have := hm.c8; omega)
      have em : metN m p = beginN Cx.blank p.src p.dst p.port m.keep := by unfold metN; rw [e, hb]; simp [blank_has]
      refine Or.inr (Or.inl ⟨hlt, e, em, ?_⟩)
      rw [e] at hat
      have er : (metN m p).rank = 8 := by rw [em]; rfl
      rw [er] at hat
      refine fit_new hm hf rfl hat sr.1 sr.2.1 hlt (fun j hj hs => hn j hj ?_)
      rw [sr.2.2.1, sr.2.2.2.1, sr.2.2.2.2, em] at hs
      exact hs
    · have hkc : k = m.cids := by have := hf.le; omega
      obtain ⟨h1, h2⟩ := c2 hkc
      obtain ⟨i, hi⟩ : ∃ i, i = chooseN m p.src p.dst p.port := ⟨_, rfl⟩
      rw [← hi] at h1 h2
      have hh : (m.at_ i).hasB p.src p.dst p.port = false := by
        simp only [Cx.hasB, decide_eq_false_iff_not]
        rintro ⟨_, h3⟩
        exact hn i h1 h3
      have em : metN m p = beginN (m.at_ i) p.src p.dst p.port m.keep := by unfold metN; rw [← hi]; simp [hh]
      refine Or.inr (Or.inr ⟨hkc, i, h1, hi.symm, h2, em, ?_⟩)
      rw [← hi] at hat
      have er : (metN m p).rank = (m.at_ i).rank := by rw [em]; rfl
      rw [er] at hat
      refine fit_old (r := (m.at_ i).rank) hm hf rfl hat sr.1 sr.2.1 h1 rfl (fun j hj hne hs => hn j hj ?_)
      rw [sr.2.2.1, sr.2.2.2.1, sr.2.2.2.2, em] at hs
      exact hs

end Go.Proofs.YtgpojbgjfibblabGreat.texts
