/-
  What always holds of a sender's contexts is kept by Send and Hear. The line of the statements on both ends (gistkeep.Line) in plain numbers: its row of cells, a step's packet.
  Conditions stand in each theorem.
-/
import Derived.Test.YtgpojbgjfibblaaPart20
import Derived.Test.YtgpojbgjfibblaaHearWalk
namespace Go.Proofs.Ytgpojbgjfibblaa.texts
open Go.RowKit
set_option linter.unusedVariables false

theorem fit_set {m : Snd} (hm : m.ok) {k : Nat} (hf : Fit m k) {i : Nat} (hi : i < 8) {X : Cx} (h0 : 0 < (m.at_ i).kept) (h1 : X.src = (m.at_ i).src) (h2 : X.dst = (m.at_ i).dst) (h3 : X.port = (m.at_ i).port) (h4 : X.rank = (m.at_ i).rank) (h5 : X.kept = (m.at_ i).kept) : Fit (m.set i X) k := by
  have hl := hm.len
  have hk8 : k ≤ 8 := Nat.le_trans hf.le hm.c8
  have hik : i < k := by
    by_cases h : i < k
    · exact h
    · rw [hf.blank i (by omega) hi] at h0
      simp [Cx.blank] at h0
  have at' : ∀ j, (m.set i X).at_ j = if j = i then X else m.at_ j := fun j => Snd.set_at m i j X (by omega)
  have g : ∀ j, ((m.set i X).at_ j).src = (m.at_ j).src ∧ ((m.set i X).at_ j).dst = (m.at_ j).dst ∧ ((m.set i X).at_ j).port = (m.at_ j).port ∧ ((m.set i X).at_ j).rank = (m.at_ j).rank ∧ ((m.set i X).at_ j).kept = (m.at_ j).kept := by
    intro j
    rw [at']
    by_cases e : j = i
    · subst e; rw [if_pos rfl]; exact ⟨h1, h2, h3, h4, h5⟩
    · rw [if_neg e]; exact ⟨rfl, rfl, rfl, rfl, rfl⟩
  refine ⟨hf.le, fun j hj => by rw [(g j).2.2.2.2]; exact hf.has j hj, fun j hj hj8 => by rw [at', if_neg (by omega)]; exact hf.blank j hj hj8, fun j hj => by rw [(g j).2.2.2.1]; exact hf.low j hj, fun j l hj hl' he => ?_, fun j l hj hl' e1 e2 e3 => ?_⟩
  · rw [(g j).2.2.2.1, (g l).2.2.2.1] at he
    exact hf.inj j l hj hl' he
  · rw [(g j).1, (g l).1] at e1
    rw [(g j).2.1, (g l).2.1] at e2
    rw [(g j).2.2.1, (g l).2.2.1] at e3
    exact hf.uniq j l hj hl' e1 e2 e3
theorem fit_hear {m : Snd} (hm : m.ok) {k : Nat} (hf : Fit m k) (l : List UInt8) : Fit (hearM m l) k := by
  match l with
  | [] => exact hf
  | [_] => exact hf
  | [x, y] =>
    simp only [hearM]
    split
    · rename_i h
      split
      · exact fit_set hm hf h.1 h.2 rfl rfl rfl rfl rfl
      · split
        · exact fit_set hm hf h.1 h.2 rfl rfl rfl rfl rfl
        · exact hf
    · exact hf
  | _ :: _ :: _ :: _ => exact hf

/-- ages stay small -/
def Young (m : Snd) : Prop := ∀ i, i < 8 → (m.at_ i).age < 100
theorem young_fresh (c k r : Nat) : Young (freshN c k r) := fun i _ => by rw [fresh_at]; decide
theorem met_young {m : Snd} (hm : m.ok) (h : Young m) (p : Pk) : (metN m p).age < 100 := by
  have hc := chooseN_lt hm p.src p.dst p.port
  unfold metN
  simp only
  split
  · exact h _ hc
  · simp [beginN]
theorem young_send {m : Snd} (hm : m.ok) (h : Young m) (p : Pk) : Young (sendM m p) := by
  intro j hj
  have hr := hm.r100
  rw [send_at hm p j hj]
  split
  · simp only [sentN, addN]
    split
    · decide
    · rename_i hk
      have hw : ¬ (0 < (metN m p).whole ∨ m.refresh ≤ (metN m p).age + 1) := by
        intro e
        apply hk
        unfold sendK kindN
        rw [if_pos e]
      omega
  · have := h j hj
    unfold fallC
    split
    · exact this
    · exact this
theorem young_mem {m : Snd} (hm : m.ok) (h : Young m) : ∀ c ∈ m.cs, c.age + 1 < 4611686018427387904 := by
  intro c hc
  obtain ⟨j, hj, rfl⟩ := List.getElem_of_mem hc
  have hl := hm.len
  have e : m.cs[j] = m.at_ j := by simp [Snd.at_, List.getD_eq_getElem?_getD, hj]
  rw [e]
  have := h j (by omega)
  omega
theorem met_ok {m : Snd} (hm : m.ok) {p : Pk} (hp : p.ok) : (metN m p).ok := by
  have o := Snd.at_ok hm (chooseN m p.src p.dst p.port)
  unfold metN
  simp only
  split
  · exact o
  · exact beginN_ok o hp.src hp.dst hp.port hm.k4
theorem send_ok {m : Snd} (hm : m.ok) (h : Young m) {p : Pk} (hp : p.ok) : (sendM m p).ok := by
  have mo := met_ok hm hp
  have hq := met_young hm h p
  have hs := strideN_lt mo p
  exact Snd.set_ok (fallN_ok hm mo.rank) _ (sentN_ok mo (stateN_ok hp hs) hm.k4 (by omega))

end Go.Proofs.Ytgpojbgjfibblaa.texts

namespace Go.Proofs.Ytgpojbgjfibblaa.texts
open Go.RowKit
set_option linter.unusedVariables false

structure Ln where
  cids : Nat
  keep : Nat
  refresh : Nat
  s : Nat
  r : Nat
  last : List Pk
  lost : List Nat
  since : List Nat
structure Ln.ok (m : Ln) : Prop where
  c1 : 1 ≤ m.cids
  c8 : m.cids ≤ 8
  k1 : 1 ≤ m.keep
  k4 : m.keep ≤ 4
  r2 : 2 ≤ m.refresh
  r100 : m.refresh ≤ 100
  last : m.last.length = 10
  lost : m.lost.length = 8
  since : m.since.length = 8
  each : ∀ p ∈ m.last, p.ok
def intV (n : Nat) : Value := .int .i64 n
def Ln.head (m : Ln) : List Value := [.int .i64 m.cids, .int .i64 m.keep, .int .i64 m.refresh, .pointer (some ⟨m.s, 0, none⟩), .pointer (some ⟨m.r, 0, none⟩)]
def Ln.row (m : Ln) : List Value := m.head ++ (m.last.flatMap (fun p => p.cells.toList) ++ (m.lost.map intV ++ m.since.map intV))
def Ln.cells (m : Ln) : Array Value := m.row.toArray
def Ln.at_ (m : Ln) (i : Nat) : Pk := m.last.getD i zeroP
def Ln.setLast (m : Ln) (i : Nat) (p : Pk) : Ln := { m with last := m.last.set i p }
def Ln.setLost (m : Ln) (i n : Nat) : Ln := { m with lost := m.lost.set i n }
def Ln.setSince (m : Ln) (i n : Nat) : Ln := { m with since := m.since.set i n }

theorem pflat_get (l : List Pk) : ∀ (i j : Nat), i < l.length → j < 8 → (l.flatMap (fun c => c.cells.toList))[8 * i + j]? = (l.getD i zeroP).cells[j]? := by
  induction l with
  | nil => intro i j h; simp at h
  | cons c l ih =>
    intro i j h hj
    have hc : c.cells.size = 8 := rfl
    rw [List.flatMap_cons]
    cases i with
    | zero =>
      rw [List.getElem?_append_left (by rw [Array.length_toList, hc]; omega)]
      simp
    | succ i =>
      rw [List.getElem?_append_right (by rw [Array.length_toList, hc]; omega), Array.length_toList, hc]
      have := ih i j (by simpa using h) hj
      rw [show 8 * (i + 1) + j - 8 = 8 * i + j by omega, this]
      simp
theorem pflat_length (l : List Pk) : (l.flatMap (fun c => c.cells.toList)).length = 8 * l.length := by
  induction l with
  | nil => rfl
  | cons c l ih =>
    have hc : c.cells.size = 8 := rfl
    rw [List.flatMap_cons, List.length_append, ih, Array.length_toList, hc]; simp; omega
theorem Ln.size {m : Ln} (hm : m.ok) : m.cells.size = 101 := by
  simp only [Ln.cells, Ln.row, Ln.head, List.size_toArray, List.length_append, pflat_length, List.length_map, hm.last, hm.lost, hm.since]
  rfl
theorem Ln.get0 (m : Ln) (j : Nat) (hj : j < 5) : m.cells[j]? = m.head[j]? := by
  simp only [Ln.cells, Ln.row, List.getElem?_toArray]
  rw [List.getElem?_append_left (by simp [Ln.head]; omega)]
theorem Ln.getLast {m : Ln} (hm : m.ok) (i j : Nat) (hi : i < 10) (hj : j < 8) : m.cells[5 + i * 8 + j]? = (m.at_ i).cells[j]? := by
  have hl := hm.last
  simp only [Ln.cells, Ln.row, List.getElem?_toArray]
  rw [List.getElem?_append_right (by simp [Ln.head]; omega), show 5 + i * 8 + j - m.head.length = 8 * i + j by simp [Ln.head]; omega,
    List.getElem?_append_left (by rw [pflat_length]; omega)]
  exact pflat_get _ _ _ (by omega) hj
theorem Ln.getLost {m : Ln} (hm : m.ok) (i : Nat) (hi : i < 8) : m.cells[85 + i]? = some (.int .i64 (m.lost.getD i 0 : Nat)) := by
  have hl := hm.last
  have hl2 := hm.lost
  simp only [Ln.cells, Ln.row, List.getElem?_toArray]
  rw [List.getElem?_append_right (by simp [Ln.head]; omega), show 85 + i - m.head.length = 80 + i by simp [Ln.head]; omega,
    List.getElem?_append_right (by rw [pflat_length]; omega), pflat_length, show 80 + i - 8 * m.last.length = i by omega,
    List.getElem?_append_left (by simp; omega), List.getElem?_map, List.getD_eq_getElem?_getD, List.getElem?_eq_getElem (by omega)]
  rfl
theorem Ln.getSince {m : Ln} (hm : m.ok) (i : Nat) (hi : i < 8) : m.cells[93 + i]? = some (.int .i64 (m.since.getD i 0 : Nat)) := by
  have hl := hm.last
  have hl2 := hm.lost
  have hl3 := hm.since
  simp only [Ln.cells, Ln.row, List.getElem?_toArray]
  rw [List.getElem?_append_right (by simp [Ln.head]; omega), show 93 + i - m.head.length = 88 + i by simp [Ln.head]; omega,
    List.getElem?_append_right (by rw [pflat_length]; omega), pflat_length, show 88 + i - 8 * m.last.length = 8 + i by omega,
    List.getElem?_append_right (by simp; omega), List.length_map, show 8 + i - m.lost.length = i by omega, List.getElem?_map, List.getD_eq_getElem?_getD, List.getElem?_eq_getElem (by omega)]
  rfl
theorem Ln.putLost {m : Ln} (hm : m.ok) (i n : Nat) (hi : i < 8) : m.cells.setIfInBounds (85 + i) (.int .i64 (n : Nat)) = (m.setLost i n).cells := by
  have hl := hm.last
  have hl2 := hm.lost
  simp only [Ln.cells, Ln.row, Ln.setLost, List.setIfInBounds_toArray]
  congr 1
  rw [List.set_append_right _ _ (by simp [Ln.head]; omega), show 85 + i - m.head.length = 80 + i by simp [Ln.head]; omega,
    List.set_append_right _ _ (by rw [pflat_length]; omega), pflat_length, show 80 + i - 8 * m.last.length = i by omega,
    List.set_append_left _ _ (by simp; omega), List.map_set]
  rfl
theorem Ln.putSince {m : Ln} (hm : m.ok) (i n : Nat) (hi : i < 8) : m.cells.setIfInBounds (93 + i) (.int .i64 (n : Nat)) = (m.setSince i n).cells := by
  have hl := hm.last
  have hl2 := hm.lost
  simp only [Ln.cells, Ln.row, Ln.setSince, List.setIfInBounds_toArray]
  congr 1
  rw [List.set_append_right _ _ (by simp [Ln.head]; omega), show 93 + i - m.head.length = 88 + i by simp [Ln.head]; omega,
    List.set_append_right _ _ (by rw [pflat_length]; omega), pflat_length, show 88 + i - 8 * m.last.length = 8 + i by omega,
    List.set_append_right _ _ (by simp; omega), List.length_map, show 8 + i - m.lost.length = i by omega, List.map_set]
  rfl
theorem pflat_set (l : List Pk) (p : Pk) : ∀ (i k : Nat), i < l.length → ((l.set i p).flatMap (fun c => c.cells.toList))[k]? = if 8 * i ≤ k ∧ k < 8 * i + 8 then p.cells.toList[k - 8 * i]? else (l.flatMap (fun c => c.cells.toList))[k]? := by
  intro i k hi
  by_cases hk : k < 8 * l.length
  · have e : k = 8 * (k / 8) + k % 8 := by omega
    have h1 := pflat_get (l.set i p) (k / 8) (k % 8) (by simp; omega) (by omega)
    have h2 := pflat_get l (k / 8) (k % 8) (by omega) (by omega)
    rw [← e] at h1 h2
    rw [h1, h2]
    by_cases hin : k / 8 = i
    · rw [if_pos (by omega), show k - 8 * i = k % 8 by omega]
      simp [List.getD_eq_getElem?_getD, hin, hi]
    · rw [if_neg (by omega)]
      simp only [List.getD_eq_getElem?_getD, List.getElem?_set]
      rw [if_neg (fun e => hin e.symm)]
  · rw [if_neg (by omega), List.getElem?_eq_none (by rw [pflat_length]; simp; omega), List.getElem?_eq_none (by rw [pflat_length]; omega)]
theorem three_get (H Y T : List Value) (k : Nat) (hH : H.length = 5) (hY : Y.length = 80) : (H ++ (Y ++ T))[k]? = if k < 5 then H[k]? else if k - 5 < 80 then Y[k - 5]? else T[k - 85]? := by
  by_cases h1 : k < 5
  · rw [if_pos h1, List.getElem?_append_left (by omega)]
  · rw [if_neg h1, List.getElem?_append_right (by omega), hH]
    by_cases h2 : k - 5 < 80
    · rw [if_pos h2, List.getElem?_append_left (by omega)]
    · rw [if_neg h2, List.getElem?_append_right (by omega), hY, show k - 5 - 80 = k - 85 by omega]
theorem Ln.putLast {m : Ln} (hm : m.ok) (i : Nat) (p : Pk) (hi : i < 10) : putRow m.cells (5 + i * 8) p.cells.toList = (m.setLast i p).cells := by
  have hl := hm.last
  have hp : p.cells.toList.length = 8 := rfl
  apply Array.ext_getElem?
  intro k
  rw [putRow_get _ _ _ _ (by rw [hp, Ln.size hm]; omega), hp]
  simp only [Ln.cells, Ln.row, Ln.setLast, List.getElem?_toArray]
  have hh2 : (Ln.head { m with last := m.last.set i p }) = m.head := rfl
  rw [hh2, three_get _ _ _ _ rfl (by rw [pflat_length]; omega), three_get _ _ _ _ rfl (by rw [pflat_length]; simp; omega), pflat_set _ _ _ _ (by omega)]
  by_cases h3 : 5 + i * 8 ≤ k ∧ k < 5 + i * 8 + 8
  · rw [if_pos h3, if_neg (by omega), if_pos (by omega), if_pos (by omega), show k - (5 + i * 8) = k - 5 - 8 * i by omega]
  · rw [if_neg h3]
    by_cases h1 : k < 5
    · rw [if_pos h1, if_pos h1]
    · rw [if_neg h1, if_neg h1]
      by_cases h2 : k - 5 < 80
      · rw [if_pos h2, if_pos h2, if_neg (by omega)]
      · rw [if_neg h2, if_neg h2]

/-- a step of a script -/
structure Sp where
  flow : Int
  how : Int
  seq : Nat
  time : Nat
  id : Nat
  flags : Nat
  body : List UInt8
  lose : Bool
  hear : List UInt8
structure Sp.ok (o : Sp) : Prop where
  flow : -9223372036854775808 ≤ o.flow ∧ o.flow ≤ 9223372036854775807
  how : -9223372036854775808 ≤ o.how ∧ o.how ≤ 9223372036854775807
  seq : o.seq < 65536
  time : o.time < 4294967296
  id : o.id < 65536
  flags : o.flags < 256
  body : o.body.length ≤ maxLen
  hear : o.hear.length ≤ maxLen
def Sp.cells (o : Sp) : Array Value := #[.int .i64 o.flow, .int .i64 o.how, .int .u16 o.seq, .int .u32 o.time, .int .u16 o.id, .int .u8 o.flags, .string (bs o.body), .bool o.lose, .string (bs o.hear)]
def srcN (n : Nat) : Nat := n * 16777216 % 4294967296
def dstN (n : Nat) : Nat := 4294967295 - n
def portN (n : Nat) : Nat := n * 6553 % 65536
theorem srcN_lt (n : Nat) : srcN n < 4294967296 := Nat.mod_lt _ (by decide)
theorem dstN_lt (n : Nat) : dstN n < 4294967296 := Nat.lt_of_le_of_lt (Nat.sub_le _ _) (by decide)
theorem portN_lt (n : Nat) : portN n < 65536 := Nat.mod_lt _ (by decide)
def routeN (n : Nat) (p : Pk) : Pk := { p with src := srcN n, dst := dstN n, port := portN n }
def flowN (o : Sp) : Nat := (bits.pk o.flow 10).toNat
theorem flowN_lt (o : Sp) : flowN o < 10 := by
  have := bits.pk_bd o.flow 10 (by decide)
  unfold flowN
  omega
/-- the packet of a step -/
def packetK (m : Ln) (o : Sp) : Pk :=
  let b := m.at_ (flowN o)
  if o.how % 4 = 0 then routeN (flowN o) ⟨0, 0, 0, o.seq, o.time, o.id, o.flags, o.body.take 100⟩
  else routeN (flowN o) ⟨0, 0, 0, (b.seq + 1) % 65536, (b.time + 160) % 4294967296, (b.id + 1) % 65536, b.flags, o.body.take 100⟩
theorem Ln.at_ok {m : Ln} (hm : m.ok) (i : Nat) (hi : i < 10) : (m.at_ i).ok := by
  have hl := hm.last
  have e : m.at_ i = m.last[i] := by unfold Ln.at_; simp [List.getD_eq_getElem?_getD, hl, hi]
  rw [e]
  exact hm.each _ (List.getElem_mem _)
theorem routeN_ok (n : Nat) {p : Pk} (h : p.ok) : (routeN n p).ok := by
  obtain ⟨h1, h2, h3, h4, h5, h6, h7⟩ := h
  obtain ⟨a, b, c, q, t, i, f, y⟩ := p
  simp only at h4 h5 h6 h7
  exact ⟨srcN_lt n, dstN_lt n, portN_lt n, h4, h5, h6, h7⟩
theorem take100 (l : List UInt8) : (l.take 100).length ≤ 100 := by rw [List.length_take]; omega
theorem packetK_ok {m : Ln} (hm : m.ok) {o : Sp} (ho : o.ok) : (packetK m o).ok ∧ (packetK m o).body.length ≤ 100 := by
  have hf := flowN_lt o
  have b := Ln.at_ok hm _ hf
  unfold packetK
  simp only
  split
  · refine ⟨routeN_ok _ ⟨Nat.zero_lt_succ _, Nat.zero_lt_succ _, Nat.zero_lt_succ _, ho.seq, ho.time, ho.id, ho.flags⟩, ?_⟩
    simp only [routeN]
    exact take100 _
  · refine ⟨routeN_ok _ ⟨Nat.zero_lt_succ _, Nat.zero_lt_succ _, Nat.zero_lt_succ _, ?_, ?_, ?_, b.flags⟩, ?_⟩
    · exact Nat.mod_lt _ (by decide)
    · exact Nat.mod_lt _ (by decide)
    · exact Nat.mod_lt _ (by decide)
    · simp only [routeN]
      exact take100 _
theorem Ln.setLast_ok {m : Ln} (hm : m.ok) (i : Nat) {p : Pk} (hp : p.ok) : (m.setLast i p).ok :=
  ⟨hm.c1, hm.c8, hm.k1, hm.k4, hm.r2, hm.r100, by simp [Ln.setLast, hm.last], hm.lost, hm.since, fun q hq => by
    rcases List.mem_or_eq_of_mem_set hq with h | h
    · exact hm.each q h
    · rw [h]; exact hp⟩
theorem Ln.setLost_ok {m : Ln} (hm : m.ok) (i n : Nat) : (m.setLost i n).ok := ⟨hm.c1, hm.c8, hm.k1, hm.k4, hm.r2, hm.r100, hm.last, by simp [Ln.setLost, hm.lost], hm.since, hm.each⟩
theorem Ln.setSince_ok {m : Ln} (hm : m.ok) (i n : Nat) : (m.setSince i n).ok := ⟨hm.c1, hm.c8, hm.k1, hm.k4, hm.r2, hm.r100, hm.last, hm.lost, by simp [Ln.setSince, hm.since], hm.each⟩

end Go.Proofs.Ytgpojbgjfibblaa.texts
