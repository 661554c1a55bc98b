/-
  A receiver in plain numbers: a frame taken apart, what it makes of a context, what Take answers.
  No condition but those in each theorem.
-/
import Derived.Test.YtgpojbgjfibblabGreatSndWalk
import Derived.Test.YtgpojbgjfibblabGreatWireRead
namespace Go.Proofs.YtgpojbgjfibblabGreat.texts
open Go.RowKit
set_option linter.unusedVariables false

/-- byte i of a text, as a number -/
def byteN (l : List UInt8) (i : Nat) : Nat := (l[i]?.getD 0).toNat
theorem byteN_lt (l : List UInt8) (i : Nat) : byteN l i < 256 := UInt8.toNat_lt _

/-- a frame taken apart -/
structure Fr where
  kind : Nat
  cid : Nat
  turn : Nat
  src : Nat
  dst : Nat
  port : Nat
  told : St
  chk : Nat
  body : List UInt8
structure Fr.ok (f : Fr) : Prop where
  kind : f.kind < 4
  cid : f.cid < 8
  turn : f.turn < 4
  src : f.src < 4294967296
  dst : f.dst < 4294967296
  port : f.port < 65536
  told : f.told.ok
  chk : f.chk < 256
def Fr.cells (f : Fr) : Array Value := #[.int .u8 f.kind, .int .u8 f.cid, .int .u8 f.turn, .int .u32 f.src, .int .u32 f.dst, .int .u16 f.port, .int .u16 f.told.seq, .int .u16 f.told.stride, .int .u16 f.told.offset, .int .u32 f.told.lag, .int .u8 f.told.flags, .int .u8 f.chk, .string (bs f.body)]
def Fr.zero : Fr := ⟨0, 0, 0, 0, 0, 0, St.zero, 0, []⟩
theorem Fr.cells_size (f : Fr) : f.cells.size = 13 := rfl
def bareF (b : Nat) : Fr := ⟨b / 64, b / 2 % 8, b / 16 % 4, 0, 0, 0, St.zero, 0, []⟩
/-- with the state of a packet, whose stride stands behind the header -/
def endF (f : Fr) (p : Pk) (t : List UInt8) : Fr := { f with told := stateN p (numOf (t.take 2)), chk := byteN t 2, body := t.drop 3 }
def endO (f : Fr) (p : Pk) (t : List UInt8) : Option Fr := if t.length < 3 then none else some (endF f p t)
def wholeO (f : Fr) (t : List UInt8) : Option Fr :=
  if t.length < 19 then none else endO { f with src := (seemP t).src, dst := (seemP t).dst, port := (seemP t).port } (bodyless (seemP t)) (t.drop 19)
def fullO (f : Fr) (t : List UInt8) : Option Fr := if t.length < 9 then none else endO f (fieldsP t (byteN t 8)) (t.drop 9)
def shortO (f : Fr) (t : List UInt8) : Option Fr :=
  if t.length < 4 ∨ 128 ≤ byteN t 3 then none else some { f with told := ⟨byteN t 0, f.told.stride, byteN t 1, byteN t 2, f.told.flags⟩, chk := byteN t 3, body := t.drop 4 }
def tinyO (f : Fr) (t : List UInt8) : Option Fr :=
  if t.length = 0 ∨ byteN t 0 % 2 = 1 then none else some { f with told := ⟨byteN t 0 / 16, f.told.stride, f.told.offset, f.told.lag, f.told.flags⟩, chk := byteN t 0 / 2 % 8, body := t.drop 1 }
/-- with what stands behind its first byte -/
def innerO (f : Fr) (t : List UInt8) : Option Fr :=
  if f.kind = 3 then wholeO f t else if f.kind = 2 then fullO f t else if f.kind = 1 then shortO f t else tinyO f t
def cutO (o : Option Fr) : Option Fr :=
  match o with
  | none => none
  | some f => if 100 < f.body.length then none else some f
/-- a text taken apart, if it has the form of a frame -/
def readF (l : List UInt8) : Option Fr :=
  if l.length = 0 ∨ byteN l 0 % 2 = 1 then none else cutO (innerO (bareF (byteN l 0)) (l.drop 1))
def frOf (o : Option Fr) : Fr := o.getD Fr.zero

theorem bodyless_ok {p : Pk} (h : p.ok) : (bodyless p).ok := ⟨h.src, h.dst, h.port, h.seq, h.time, h.id, h.flags⟩
theorem fieldsP_ok (t : List UInt8) (f : Nat) (hf : f < 256) : (fieldsP t f).ok :=
  ⟨by show 0 < 4294967296; decide, by show 0 < 4294967296; decide, by show 0 < 65536; decide, numOf_lt' 2 (by simp; omega), numOf_lt' 4 (by simp; omega), numOf_lt' 2 (by simp; omega), hf⟩
theorem bareF_ok {b : Nat} (h : b < 256) : (bareF b).ok := ⟨by simp only [bareF]; omega, by simp only [bareF]; omega, by simp only [bareF]; omega, by simp [bareF], by simp [bareF], by simp [bareF], St.zero_ok, by simp [bareF]⟩
theorem endO_ok {f : Fr} (hf : f.ok) {p : Pk} (hp : p.ok) {t : List UInt8} {g : Fr} (h : endO f p t = some g) : g.ok := by
  unfold endO at h
  split at h
  · cases h
  · injection h with h
    subst h
    exact ⟨hf.kind, hf.cid, hf.turn, hf.src, hf.dst, hf.port, stateN_ok hp (numOf_lt' 2 (by simp; omega)), byteN_lt _ _⟩
theorem innerO_ok {f : Fr} (hf : f.ok) {t : List UInt8} {g : Fr} (h : innerO f t = some g) : g.ok := by
  unfold innerO at h
  split at h
  · unfold wholeO at h
    split at h
    · cases h
    · have o := seem_ok t
      exact endO_ok (f := { f with src := (seemP t).src, dst := (seemP t).dst, port := (seemP t).port }) ⟨hf.kind, hf.cid, hf.turn, o.src, o.dst, o.port, hf.told, hf.chk⟩ (bodyless_ok o) h
  · split at h
    · unfold fullO at h
      split at h
      · cases h
      · exact endO_ok hf (fieldsP_ok _ _ (byteN_lt _ _)) h
    · split at h
      · unfold shortO at h
        split at h
        · cases h
        · injection h with h
          subst h
          have b0 := byteN_lt t 0
          have b1 := byteN_lt t 1
          have b2 := byteN_lt t 2
          exact ⟨hf.kind, hf.cid, hf.turn, hf.src, hf.dst, hf.port, ⟨by simp only; omega, hf.told.stride, by simp only; omega, by simp only; omega, hf.told.flags⟩, byteN_lt _ _⟩
      · unfold tinyO at h
        split at h
        · cases h
        · injection h with h
          subst h
          have b0 := byteN_lt t 0
          exact ⟨hf.kind, hf.cid, hf.turn, hf.src, hf.dst, hf.port, ⟨by simp only; omega, hf.told.stride, hf.told.offset, hf.told.lag, hf.told.flags⟩, by simp only; omega⟩
theorem readF_ok {l : List UInt8} {g : Fr} (h : readF l = some g) : g.ok ∧ g.body.length ≤ 100 := by
  unfold readF at h
  split at h
  · cases h
  · unfold cutO at h
    split at h
    · cases h
    · rename_i f hf
      split at h
      · cases h
      · injection h with h
        subst h
        exact ⟨innerO_ok (bareF_ok (byteN_lt _ _)) hf, by omega⟩

/-- what a receiver keeps of a flow -/
structure Rx where
  begun : Bool
  src : Nat
  dst : Nat
  port : Nat
  turn : Nat
  st : St
  missed : Nat
structure Rx.ok (c : Rx) : Prop where
  src : c.src < 4294967296
  dst : c.dst < 4294967296
  port : c.port < 65536
  turn : c.turn < 4
  st : c.st.ok
  missed : c.missed < 256
def Rx.cells (c : Rx) : Array Value := #[.bool c.begun, .int .u32 c.src, .int .u32 c.dst, .int .u16 c.port, .int .u8 c.turn, .int .u16 c.st.seq, .int .u16 c.st.stride, .int .u16 c.st.offset, .int .u32 c.st.lag, .int .u8 c.st.flags, .int .u8 c.missed]
def Rx.blank : Rx := ⟨false, 0, 0, 0, 0, St.zero, 0⟩
theorem Rx.blank_ok : Rx.blank.ok := ⟨by decide, by decide, by decide, by decide, St.zero_ok, by decide⟩
theorem Rx.cells_size (c : Rx) : c.cells.size = 11 := rfl

/-- the states behind a SHORT and behind a TINY frame -/
def seqAfterN (a k b : Nat) : Nat := (bits.lowR 16 k a 1 b).toNat
def afterShortN (a b : St) : St := ⟨seqAfterN a.seq 8 b.seq, a.stride, (bits.lowR 16 8 a.offset 128 b.offset).toNat, (bits.lowR 32 8 a.lag 128 b.lag).toNat, a.flags⟩
def afterTinyN (a b : St) : St := ⟨seqAfterN a.seq 4 b.seq, a.stride, a.offset, a.lag, a.flags⟩
theorem lowR16_bd (k r p b : Int) : 0 ≤ bits.lowR 16 k r p b ∧ bits.lowR 16 k r p b < 65536 := bits.lowR_bd 16 k r p b
theorem lowR32_bd (k r p b : Int) : 0 ≤ bits.lowR 32 k r p b ∧ bits.lowR 32 k r p b < 4294967296 := bits.lowR_bd 32 k r p b
theorem seqAfterN_lt (a k b : Nat) : seqAfterN a k b < 65536 := by
  have := lowR16_bd k a 1 b
  unfold seqAfterN
  omega
theorem afterShortN_ok {a : St} (h : a.ok) (b : St) : (afterShortN a b).ok := by
  have h1 := lowR16_bd 8 a.offset 128 b.offset
  have h2 := lowR32_bd 8 a.lag 128 b.lag
  refine ⟨?_, ?_, ?_, ?_, ?_⟩ <;> simp only [afterShortN]
  · exact seqAfterN_lt _ _ _
  · exact h.stride
  · omega
  · omega
  · exact h.flags
theorem afterTinyN_ok {a : St} (h : a.ok) (b : St) : (afterTinyN a b).ok := by
  refine ⟨?_, ?_, ?_, ?_, ?_⟩ <;> simp only [afterTinyN]
  · exact seqAfterN_lt _ _ _
  · exact h.stride
  · exact h.offset
  · exact h.lag
  · exact h.flags
/-- the packet that left a state -/
def packetN (s : St) (a b c : Nat) (body : List UInt8) : Pk := ⟨a, b, c, s.seq, timeN s, (s.offset + s.seq) % 65536, s.flags, body⟩
theorem packetN_ok {s : St} (h : s.ok) {a b c : Nat} (ha : a < 4294967296) (hb : b < 4294967296) (hc : c < 65536) (body : List UInt8) : (packetN s a b c body).ok :=
  ⟨ha, hb, hc, h.seq, timeN_lt _, Nat.mod_lt _ (by decide), h.flags⟩
/-- the context behind a frame, should it be believed -/
def followN (c : Rx) (f : Fr) : Rx :=
  ⟨true, if f.kind = 3 then f.src else c.src, if f.kind = 3 then f.dst else c.dst, if f.kind = 3 then f.port else c.port, f.turn, if f.kind = 1 then afterShortN c.st f.told else if f.kind = 0 then afterTinyN c.st f.told else f.told, 0⟩
theorem followN_ok {c : Rx} (hc : c.ok) {f : Fr} (hf : f.ok) : (followN c f).ok := by
  refine ⟨?_, ?_, ?_, hf.turn, ?_, by simp [followN]⟩ <;> simp only [followN]
  · split; exact hf.src; exact hc.src
  · split; exact hf.dst; exact hc.dst
  · split; exact hf.port; exact hc.port
  · split
    · exact afterShortN_ok hc.st _
    · split
      · exact afterTinyN_ok hc.st _
      · exact hf.told
def madeN (c : Rx) (f : Fr) : Pk := packetN (followN c f).st (followN c f).src (followN c f).dst (followN c f).port f.body
theorem madeN_ok {c : Rx} (hc : c.ok) {f : Fr} (hf : f.ok) : (madeN c f).ok :=
  have o := followN_ok hc hf
  packetN_ok o.st o.src o.dst o.port _
/-- why a frame of which p was made is not believed -/
def refusalN (c : Rx) (f : Fr) (p : Pk) : Nat :=
  if f.kind ≠ 3 ∧ c.begun = false then 8 else if f.kind ≠ 3 ∧ c.turn ≠ f.turn then 9 else if f.chk = chk (widthN f.kind) p then 0 else 10
/-- the feedback -/
def letterN (e missed : Nat) : List UInt8 := if e = 8 then (if missed % 4 = 1 then [83] else []) else if missed % 4 = 2 then [68] else if missed % 4 = 0 then [83] else []
def feedN (e missed cid : Nat) : List UInt8 := if letterN e missed = [] then [] else letterN e missed ++ be cid 1

structure Rcv where
  cids : Nat
  cs : List Rx
structure Rcv.ok (m : Rcv) : Prop where
  c1 : 1 ≤ m.cids
  c8 : m.cids ≤ 8
  len : m.cs.length = 8
  each : ∀ c ∈ m.cs, c.ok
def Rcv.row (m : Rcv) : List Value := [.int .i64 m.cids] ++ m.cs.flatMap (fun c => c.cells.toList)
def Rcv.cells (m : Rcv) : Array Value := m.row.toArray
def Rcv.at_ (m : Rcv) (i : Nat) : Rx := m.cs.getD i Rx.blank
def Rcv.set (m : Rcv) (i : Nat) (c : Rx) : Rcv := { m with cs := m.cs.set i c }
theorem Rcv.at_mem {m : Rcv} {i : Nat} (h : i < m.cs.length) : m.at_ i ∈ m.cs := by
  have e : m.at_ i = m.cs[i] := by unfold Rcv.at_; simp [List.getD_eq_getElem?_getD, h]
  rw [e]
  exact List.getElem_mem h
theorem Rcv.at_ok {m : Rcv} (hm : m.ok) (i : Nat) : (m.at_ i).ok := by
  by_cases h : i < m.cs.length
  · exact hm.each _ (Rcv.at_mem h)
  · have e : m.at_ i = Rx.blank := by unfold Rcv.at_; rw [List.getD_eq_getElem?_getD, List.getElem?_eq_none (by omega)]; rfl
    rw [e]
    exact Rx.blank_ok
theorem Rcv.set_at (m : Rcv) (i j : Nat) (c : Rx) (hi : i < m.cs.length) : (m.set i c).at_ j = if j = i then c else m.at_ j := by
  unfold Rcv.at_ Rcv.set
  simp only [List.getD_eq_getElem?_getD, List.getElem?_set]
  by_cases h : j = i
  · subst h; simp [hi]
  · rw [if_neg h, if_neg (fun e => h e.symm)]
theorem Rcv.set_ok {m : Rcv} (hm : m.ok) (i : Nat) {c : Rx} (hc : c.ok) : (m.set i c).ok :=
  ⟨hm.c1, hm.c8, by simp [Rcv.set, hm.len], fun d hd => by
    rcases List.mem_or_eq_of_mem_set hd with h | h
    · exact hm.each d h
    · rw [h]; exact hc⟩
theorem rflat_get (l : List Rx) : ∀ (i j : Nat), i < l.length → j < 11 → (l.flatMap (fun c => c.cells.toList))[11 * i + j]? = (l.getD i Rx.blank).cells[j]? := by
  induction l with
  | nil => intro i j h; simp at h
  | cons c l ih =>
    intro i j h hj
    rw [List.flatMap_cons]
    cases i with
    | zero =>
      rw [List.getElem?_append_left (by rw [Array.length_toList, Rx.cells_size]; omega)]
      simp
    | succ i =>
      rw [List.getElem?_append_right (by rw [Array.length_toList, Rx.cells_size]; omega), Array.length_toList, Rx.cells_size]
      have := ih i j (by simpa using h) hj
      rw [show 11 * (i + 1) + j - 11 = 11 * i + j by omega, this]
      simp
theorem rflat_length (l : List Rx) : (l.flatMap (fun c => c.cells.toList)).length = 11 * l.length := by
  induction l with
  | nil => rfl
  | cons c l ih => rw [List.flatMap_cons, List.length_append, ih, Array.length_toList, Rx.cells_size]; simp; omega
theorem Rcv.cells_size (m : Rcv) : m.cells.size = 1 + 11 * m.cs.length := by
  simp only [Rcv.cells, Rcv.row, List.size_toArray, List.length_append, rflat_length]
  rfl
theorem Rcv.get (m : Rcv) (i j : Nat) (hi : i < m.cs.length) (hj : j < 11) : m.cells[1 + 11 * i + j]? = (m.at_ i).cells[j]? := by
  simp only [Rcv.cells, Rcv.row, List.getElem?_toArray]
  rw [List.getElem?_append_right (by simp; omega)]
  rw [show 1 + 11 * i + j - ([.int .i64 m.cids] : List Value).length = 11 * i + j by simp; omega]
  exact rflat_get _ _ _ hi hj
theorem Rcv.get0 (m : Rcv) : m.cells[0]? = some (.int .i64 m.cids) := by
  simp [Rcv.cells, Rcv.row]
theorem Rcv.cells_ext {m : Rcv} {C : Array Value} (hs : C.size = 1 + 11 * m.cs.length) (h0 : C[0]? = m.cells[0]?) (h1 : ∀ i j, i < m.cs.length → j < 11 → C[1 + 11 * i + j]? = (m.at_ i).cells[j]?) : C = m.cells := by
  apply Array.ext_getElem?
  intro k
  by_cases hk : k < 1
  · rw [show k = 0 by omega]; exact h0
  · by_cases hk2 : k < 1 + 11 * m.cs.length
    · have e : k = 1 + 11 * ((k - 1) / 11) + (k - 1) % 11 := by omega
      rw [e, h1 _ _ (by omega) (by omega), Rcv.get m _ _ (by omega) (by omega)]
    · rw [Array.getElem?_eq_none (by omega), Array.getElem?_eq_none (by rw [Rcv.cells_size]; omega)]
theorem Rcv.put (m : Rcv) (i : Nat) (c : Rx) (hi : i < m.cs.length) : putRow m.cells (1 + 11 * i) c.cells.toList = (m.set i c).cells := by
  have hl : c.cells.toList.length = 11 := by rw [Array.length_toList, Rx.cells_size]
  refine Rcv.cells_ext ?_ ?_ ?_
  · rw [putRow_size, Rcv.cells_size]; simp [Rcv.set]
  · rw [putRow_get _ _ _ _ (by rw [hl, Rcv.cells_size]; omega), if_neg (by omega), Rcv.get0, Rcv.get0]
    rfl
  · intro i' j hi' hj
    have hi2 : i' < m.cs.length := by simpa [Rcv.set] using hi'
    rw [putRow_get _ _ _ _ (by rw [hl, Rcv.cells_size]; omega), hl, Rcv.set_at _ _ _ _ hi]
    by_cases h : i' = i
    · subst h
      rw [if_pos (by omega), if_pos rfl, show 1 + 11 * i' + j - (1 + 11 * i') = j by omega]
      simp
    · rw [if_neg (by omega), if_neg h, Rcv.get _ _ _ hi2 hj]

/-- Take: the error, the packet, the feedback, the receiver behind it -/
def takeE (m : Rcv) (l : List UInt8) : Nat :=
  match readF l with
  | none => 4
  | some f => if m.cids ≤ f.cid then 4 else refusalN (m.at_ f.cid) f (madeN (m.at_ f.cid) f)
def takeP (m : Rcv) (l : List UInt8) : Pk :=
  match readF l with
  | none => zeroP
  | some f => if takeE m l = 0 then madeN (m.at_ f.cid) f else zeroP
def takeB (m : Rcv) (l : List UInt8) : List UInt8 :=
  match readF l with
  | none => []
  | some f => if takeE m l = 0 ∨ takeE m l = 4 ∨ f.kind = 3 then [] else feedN (takeE m l) (((m.at_ f.cid).missed + 1) % 256) f.cid
def takeM (m : Rcv) (l : List UInt8) : Rcv :=
  match readF l with
  | none => m
  | some f => if takeE m l = 4 then m else if takeE m l = 0 then m.set f.cid (followN (m.at_ f.cid) f) else if f.kind = 3 then m else m.set f.cid { m.at_ f.cid with missed := ((m.at_ f.cid).missed + 1) % 256 }

end Go.Proofs.YtgpojbgjfibblabGreat.texts
