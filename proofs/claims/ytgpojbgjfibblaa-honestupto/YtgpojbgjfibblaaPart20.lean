/-
  A receiver in plain numbers: a frame taken apart, what it makes of a context, what Take answers. A frame of a packet, taken: what it is taken apart into, and that the packet comes out again. What always holds of a sender's contexts: which have flows, how their ranks lie.
  Conditions stand in each theorem.
-/
import Derived.Test.YtgpojbgjfibblaaSndWalk
import Derived.Test.YtgpojbgjfibblaaWireRead
import Derived.Test.YtgpojbgjfibblaaPart5
import Derived.Test.YtgpojbgjfibblaaPart10
import Derived.Test.YtgpojbgjfibblaaSndModel
namespace Go.Proofs.Ytgpojbgjfibblaa.texts
open Go.RowKit
set_option linter.unusedVariables false

/-- byte i of a text, as a number -/
def byteN (l : List UInt8) (i : Nat) : Nat := (l[i]?.getD 0).toNat
theorem byteN_lt (l : List UInt8) (i : Nat) : byteN l i < 256 := UInt8.toNat_lt _

/-- a frame taken apart -/
structure Fr where
  kind : Nat
  cid : Nat
  turn : Nat
  src : Nat
  dst : Nat
  port : Nat
  told : St
  chk : Nat
  body : List UInt8
structure Fr.ok (f : Fr) : Prop where
  kind : f.kind < 4
  cid : f.cid < 8
  turn : f.turn < 4
  src : f.src < 4294967296
  dst : f.dst < 4294967296
  port : f.port < 65536
  told : f.told.ok
  chk : f.chk < 256
def Fr.cells (f : Fr) : Array Value := #[.int .u8 f.kind, .int .u8 f.cid, .int .u8 f.turn, .int .u32 f.src, .int .u32 f.dst, .int .u16 f.port, .int .u16 f.told.seq, .int .u16 f.told.stride, .int .u16 f.told.offset, .int .u32 f.told.lag, .int .u8 f.told.flags, .int .u8 f.chk, .string (bs f.body)]
def Fr.zero : Fr := ⟨0, 0, 0, 0, 0, 0, St.zero, 0, []⟩
theorem Fr.cells_size (f : Fr) : f.cells.size = 13 := rfl
def bareF (b : Nat) : Fr := ⟨b / 64, b / 2 % 8, b / 16 % 4, 0, 0, 0, St.zero, 0, []⟩
/-- with the state of a packet, whose stride stands behind the header -/
def endF (f : Fr) (p : Pk) (t : List UInt8) : Fr := { f with told := stateN p (numOf (t.take 2)), chk := byteN t 2, body := t.drop 3 }
def endO (f : Fr) (p : Pk) (t : List UInt8) : Option Fr := if t.length < 3 then none else some (endF f p t)
def wholeO (f : Fr) (t : List UInt8) : Option Fr :=
  if t.length < 19 then none else endO { f with src := (seemP t).src, dst := (seemP t).dst, port := (seemP t).port } (bodyless (seemP t)) (t.drop 19)
def fullO (f : Fr) (t : List UInt8) : Option Fr := if t.length < 9 then none else endO f (fieldsP t (byteN t 8)) (t.drop 9)
def shortO (f : Fr) (t : List UInt8) : Option Fr :=
  if t.length < 4 ∨ 128 ≤ byteN t 3 then none else some { f with told := ⟨byteN t 0, f.told.stride, byteN t 1, byteN t 2, f.told.flags⟩, chk := byteN t 3, body := t.drop 4 }
def tinyO (f : Fr) (t : List UInt8) : Option Fr :=
  if t.length = 0 ∨ byteN t 0 % 2 = 1 then none else some { f with told := ⟨byteN t 0 / 16, f.told.stride, f.told.offset, f.told.lag, f.told.flags⟩, chk := byteN t 0 / 2 % 8, body := t.drop 1 }
/-- with what stands behind its first byte -/
def innerO (f : Fr) (t : List UInt8) : Option Fr :=
  if f.kind = 3 then wholeO f t else if f.kind = 2 then fullO f t else if f.kind = 1 then shortO f t else tinyO f t
def cutO (o : Option Fr) : Option Fr :=
  match o with
  | none => none
  | some f => if 100 < f.body.length then none else some f
/-- a text taken apart, if it has the form of a frame -/
def readF (l : List UInt8) : Option Fr :=
  if l.length = 0 ∨ byteN l 0 % 2 = 1 then none else cutO (innerO (bareF (byteN l 0)) (l.drop 1))
def frOf (o : Option Fr) : Fr := o.getD Fr.zero

theorem bodyless_ok {p : Pk} (h : p.ok) : (bodyless p).ok := ⟨h.src, h.dst, h.port, h.seq, h.time, h.id, h.flags⟩
theorem fieldsP_ok (t : List UInt8) (f : Nat) (hf : f < 256) : (fieldsP t f).ok :=
  ⟨by show 0 < 4294967296; decide, by show 0 < 4294967296; decide, by show 0 < 65536; decide, numOf_lt' 2 (by simp; omega), numOf_lt' 4 (by simp; omega), numOf_lt' 2 (by simp; omega), hf⟩
theorem bareF_ok {b : Nat} (h : b < 256) : (bareF b).ok := ⟨by simp only [bareF]; omega, by simp only [bareF]; omega, by simp only [bareF]; omega, by simp [bareF], by simp [bareF], by simp [bareF], St.zero_ok, by simp [bareF]⟩
theorem endO_ok {f : Fr} (hf : f.ok) {p : Pk} (hp : p.ok) {t : List UInt8} {g : Fr} (h : endO f p t = some g) : g.ok := by
  unfold endO at h
  split at h
  · cases h
  · injection h with h
    subst h
    exact ⟨hf.kind, hf.cid, hf.turn, hf.src, hf.dst, hf.port, stateN_ok hp (numOf_lt' 2 (by simp; omega)), byteN_lt _ _⟩
theorem innerO_ok {f : Fr} (hf : f.ok) {t : List UInt8} {g : Fr} (h : innerO f t = some g) : g.ok := by
  unfold innerO at h
  split at h
  · unfold wholeO at h
    split at h
    · cases h
    · have o := seem_ok t
      exact endO_ok (f := { f with src := (seemP t).src, dst := (seemP t).dst, port := (seemP t).port }) ⟨hf.kind, hf.cid, hf.turn, o.src, o.dst, o.port, hf.told, hf.chk⟩ (bodyless_ok o) h
  · split at h
    · unfold fullO at h
      split at h
      · cases h
      · exact endO_ok hf (fieldsP_ok _ _ (byteN_lt _ _)) h
    · split at h
      · unfold shortO at h
        split at h
        · cases h
        · injection h with h
          subst h
          have b0 := byteN_lt t 0
          have b1 := byteN_lt t 1
          have b2 := byteN_lt t 2
          exact ⟨hf.kind, hf.cid, hf.turn, hf.src, hf.dst, hf.port, ⟨by simp only; omega, hf.told.stride, by simp only; omega, by simp only; omega, hf.told.flags⟩, byteN_lt _ _⟩
      · unfold tinyO at h
        split at h
        · cases h
        · injection h with h
          subst h
          have b0 := byteN_lt t 0
          exact ⟨hf.kind, hf.cid, hf.turn, hf.src, hf.dst, hf.port, ⟨by simp only; omega, hf.told.stride, hf.told.offset, hf.told.lag, hf.told.flags⟩, by simp only; omega⟩
theorem readF_ok {l : List UInt8} {g : Fr} (h : readF l = some g) : g.ok ∧ g.body.length ≤ 100 := by
  unfold readF at h
  split at h
  · cases h
  · unfold cutO at h
    split at h
    · cases h
    · rename_i f hf
      split at h
      · cases h
      · injection h with h
        subst h
        exact ⟨innerO_ok (bareF_ok (byteN_lt _ _)) hf, by omega⟩

/-- what a receiver keeps of a flow -/
structure Rx where
  begun : Bool
  src : Nat
  dst : Nat
  port : Nat
  turn : Nat
  st : St
  missed : Nat
structure Rx.ok (c : Rx) : Prop where
  src : c.src < 4294967296
  dst : c.dst < 4294967296
  port : c.port < 65536
  turn : c.turn < 4
  st : c.st.ok
  missed : c.missed < 256
def Rx.cells (c : Rx) : Array Value := #[.bool c.begun, .int .u32 c.src, .int .u32 c.dst, .int .u16 c.port, .int .u8 c.turn, .int .u16 c.st.seq, .int .u16 c.st.stride, .int .u16 c.st.offset, .int .u32 c.st.lag, .int .u8 c.st.flags, .int .u8 c.missed]
def Rx.blank : Rx := ⟨false, 0, 0, 0, 0, St.zero, 0⟩
theorem Rx.blank_ok : Rx.blank.ok := ⟨by decide, by decide, by decide, by decide, St.zero_ok, by decide⟩
theorem Rx.cells_size (c : Rx) : c.cells.size = 11 := rfl

/-- the states behind a SHORT and behind a TINY frame -/
def seqAfterN (a k b : Nat) : Nat := (bits.lowR 16 k a 1 b).toNat
def afterShortN (a b : St) : St := ⟨seqAfterN a.seq 8 b.seq, a.stride, (bits.lowR 16 8 a.offset 128 b.offset).toNat, (bits.lowR 32 8 a.lag 128 b.lag).toNat, a.flags⟩
def afterTinyN (a b : St) : St := ⟨seqAfterN a.seq 4 b.seq, a.stride, a.offset, a.lag, a.flags⟩
theorem lowR16_bd (k r p b : Int) : 0 ≤ bits.lowR 16 k r p b ∧ bits.lowR 16 k r p b < 65536 := bits.lowR_bd 16 k r p b
theorem lowR32_bd (k r p b : Int) : 0 ≤ bits.lowR 32 k r p b ∧ bits.lowR 32 k r p b < 4294967296 := bits.lowR_bd 32 k r p b
theorem seqAfterN_lt (a k b : Nat) : seqAfterN a k b < 65536 := by
  have := lowR16_bd k a 1 b
  unfold seqAfterN
  omega
theorem afterShortN_ok {a : St} (h : a.ok) (b : St) : (afterShortN a b).ok := by
  have h1 := lowR16_bd 8 a.offset 128 b.offset
  have h2 := lowR32_bd 8 a.lag 128 b.lag
  refine ⟨?_, ?_, ?_, ?_, ?_⟩ <;> simp only [afterShortN]
  · exact seqAfterN_lt _ _ _
  · exact h.stride
  · omega
  · omega
  · exact h.flags
theorem afterTinyN_ok {a : St} (h : a.ok) (b : St) : (afterTinyN a b).ok := by
  refine ⟨?_, ?_, ?_, ?_, ?_⟩ <;> simp only [afterTinyN]
  · exact seqAfterN_lt _ _ _
  · exact h.stride
  · exact h.offset
  · exact h.lag
  · exact h.flags
/-- the packet that left a state -/
def packetN (s : St) (a b c : Nat) (body : List UInt8) : Pk := ⟨a, b, c, s.seq, timeN s, (s.offset + s.seq) % 65536, s.flags, body⟩
theorem packetN_ok {s : St} (h : s.ok) {a b c : Nat} (ha : a < 4294967296) (hb : b < 4294967296) (hc : c < 65536) (body : List UInt8) : (packetN s a b c body).ok :=
  ⟨ha, hb, hc, h.seq, timeN_lt _, Nat.mod_lt _ (by decide), h.flags⟩
/-- the context behind a frame, should it be believed -/
def followN (c : Rx) (f : Fr) : Rx :=
  ⟨true, if f.kind = 3 then f.src else c.src, if f.kind = 3 then f.dst else c.dst, if f.kind = 3 then f.port else c.port, f.turn, if f.kind = 1 then afterShortN c.st f.told else if f.kind = 0 then afterTinyN c.st f.told else f.told, 0⟩
theorem followN_ok {c : Rx} (hc : c.ok) {f : Fr} (hf : f.ok) : (followN c f).ok := by
  refine ⟨?_, ?_, ?_, hf.turn, ?_, by simp [followN]⟩ <;> simp only [followN]
  · split; exact hf.src; exact hc.src
  · split; exact hf.dst; exact hc.dst
  · split; exact hf.port; exact hc.port
  · split
    · exact afterShortN_ok hc.st _
    · split
      · exact afterTinyN_ok hc.st _
      · exact hf.told
def madeN (c : Rx) (f : Fr) : Pk := packetN (followN c f).st (followN c f).src (followN c f).dst (followN c f).port f.body
theorem madeN_ok {c : Rx} (hc : c.ok) {f : Fr} (hf : f.ok) : (madeN c f).ok :=
  have o := followN_ok hc hf
  packetN_ok o.st o.src o.dst o.port _
/-- why a frame of which p was made is not believed -/
def refusalN (c : Rx) (f : Fr) (p : Pk) : Nat :=
  if f.kind ≠ 3 ∧ c.begun = false then 8 else if f.kind ≠ 3 ∧ c.turn ≠ f.turn then 9 else if f.chk = chk (widthN f.kind) p then 0 else 10
/-- the feedback -/
def letterN (e missed : Nat) : List UInt8 := if e = 8 then (if missed % 4 = 1 then [83] else []) else if missed % 4 = 2 then [68] else if missed % 4 = 0 then [83] else []
def feedN (e missed cid : Nat) : List UInt8 := if letterN e missed = [] then [] else letterN e missed ++ be cid 1

structure Rcv where
  cids : Nat
  cs : List Rx
structure Rcv.ok (m : Rcv) : Prop where
  c1 : 1 ≤ m.cids
  c8 : m.cids ≤ 8
  len : m.cs.length = 8
  each : ∀ c ∈ m.cs, c.ok
def Rcv.row (m : Rcv) : List Value := [.int .i64 m.cids] ++ m.cs.flatMap (fun c => c.cells.toList)
def Rcv.cells (m : Rcv) : Array Value := m.row.toArray
def Rcv.at_ (m : Rcv) (i : Nat) : Rx := m.cs.getD i Rx.blank
def Rcv.set (m : Rcv) (i : Nat) (c : Rx) : Rcv := { m with cs := m.cs.set i c }
theorem Rcv.at_mem {m : Rcv} {i : Nat} (h : i < m.cs.length) : m.at_ i ∈ m.cs := by
  have e : m.at_ i = m.cs[i] := by unfold Rcv.at_; simp [List.getD_eq_getElem?_getD, h]
  rw [e]
  exact List.getElem_mem h
theorem Rcv.at_ok {m : Rcv} (hm : m.ok) (i : Nat) : (m.at_ i).ok := by
  by_cases h : i < m.cs.length
  · exact hm.each _ (Rcv.at_mem h)
  · have e : m.at_ i = Rx.blank := by unfold Rcv.at_; rw [List.getD_eq_getElem?_getD, List.getElem?_eq_none (by omega)]; rfl
    rw [e]
    exact Rx.blank_ok
theorem Rcv.set_at (m : Rcv) (i j : Nat) (c : Rx) (hi : i < m.cs.length) : (m.set i c).at_ j = if j = i then c else m.at_ j := by
  unfold Rcv.at_ Rcv.set
  simp only [List.getD_eq_getElem?_getD, List.getElem?_set]
  by_cases h : j = i
  · subst h; simp [hi]
  · rw [if_neg h, if_neg (fun e => h e.symm)]
theorem Rcv.set_ok {m : Rcv} (hm : m.ok) (i : Nat) {c : Rx} (hc : c.ok) : (m.set i c).ok :=
  ⟨hm.c1, hm.c8, by simp [Rcv.set, hm.len], fun d hd => by
    rcases List.mem_or_eq_of_mem_set hd with h | h
    · exact hm.each d h
    · rw [h]; exact hc⟩
theorem rflat_get (l : List Rx) : ∀ (i j : Nat), i < l.length → j < 11 → (l.flatMap (fun c => c.cells.toList))[11 * i + j]? = (l.getD i Rx.blank).cells[j]? := by
  induction l with
  | nil => intro i j h; simp at h
  | cons c l ih =>
    intro i j h hj
    rw [List.flatMap_cons]
    cases i with
    | zero =>
      rw [List.getElem?_append_left (by rw [Array.length_toList, Rx.cells_size]; omega)]
      simp
    | succ i =>
      rw [List.getElem?_append_right (by rw [Array.length_toList, Rx.cells_size]; omega), Array.length_toList, Rx.cells_size]
      have := ih i j (by simpa using h) hj
      rw [show 11 * (i + 1) + j - 11 = 11 * i + j by omega, this]
      simp
theorem rflat_length (l : List Rx) : (l.flatMap (fun c => c.cells.toList)).length = 11 * l.length := by
  induction l with
  | nil => rfl
  | cons c l ih => rw [List.flatMap_cons, List.length_append, ih, Array.length_toList, Rx.cells_size]; simp; omega
theorem Rcv.cells_size (m : Rcv) : m.cells.size = 1 + 11 * m.cs.length := by
  simp only [Rcv.cells, Rcv.row, List.size_toArray, List.length_append, rflat_length]
  rfl
theorem Rcv.get (m : Rcv) (i j : Nat) (hi : i < m.cs.length) (hj : j < 11) : m.cells[1 + 11 * i + j]? = (m.at_ i).cells[j]? := by
  simp only [Rcv.cells, Rcv.row, List.getElem?_toArray]
  rw [List.getElem?_append_right (by simp; omega)]
  rw [show 1 + 11 * i + j - ([.int .i64 m.cids] : List Value).length = 11 * i + j by simp; omega]
  exact rflat_get _ _ _ hi hj
theorem Rcv.get0 (m : Rcv) : m.cells[0]? = some (.int .i64 m.cids) := by
  simp [Rcv.cells, Rcv.row]
theorem Rcv.cells_ext {m : Rcv} {C : Array Value} (hs : C.size = 1 + 11 * m.cs.length) (h0 : C[0]? = m.cells[0]?) (h1 : ∀ i j, i < m.cs.length → j < 11 → C[1 + 11 * i + j]? = (m.at_ i).cells[j]?) : C = m.cells := by
  apply Array.ext_getElem?
  intro k
  by_cases hk : k < 1
  · rw [show k = 0 by omega]; exact h0
  · by_cases hk2 : k < 1 + 11 * m.cs.length
    · have e : k = 1 + 11 * ((k - 1) / 11) + (k - 1) % 11 := by omega
      rw [e, h1 _ _ (by omega) (by omega), Rcv.get m _ _ (by omega) (by omega)]
    · rw [Array.getElem?_eq_none (by omega), Array.getElem?_eq_none (by rw [Rcv.cells_size]; omega)]
theorem Rcv.put (m : Rcv) (i : Nat) (c : Rx) (hi : i < m.cs.length) : putRow m.cells (1 + 11 * i) c.cells.toList = (m.set i c).cells := by
  have hl : c.cells.toList.length = 11 := by rw [Array.length_toList, Rx.cells_size]
  refine Rcv.cells_ext ?_ ?_ ?_
  · rw [putRow_size, Rcv.cells_size]; simp [Rcv.set]
  · rw [putRow_get _ _ _ _ (by rw [hl, Rcv.cells_size]; omega), if_neg (by omega), Rcv.get0, Rcv.get0]
    rfl
  · intro i' j hi' hj
    have hi2 : i' < m.cs.length := by simpa [Rcv.set] using hi'
    rw [putRow_get _ _ _ _ (by rw [hl, Rcv.cells_size]; omega), hl, Rcv.set_at _ _ _ _ hi]
    by_cases h : i' = i
    · subst h
      rw [if_pos (by omega), if_pos rfl, show 1 + 11 * i' + j - (1 + 11 * i') = j by omega]
      simp
    · rw [if_neg (by omega), if_neg h, Rcv.get _ _ _ hi2 hj]

/-- Take: the error, the packet, the feedback, the receiver behind it -/
def takeE (m : Rcv) (l : List UInt8) : Nat :=
  match readF l with
  | none => 4
  | some f => if m.cids ≤ f.cid then 4 else refusalN (m.at_ f.cid) f (madeN (m.at_ f.cid) f)
def takeP (m : Rcv) (l : List UInt8) : Pk :=
  match readF l with
  | none => zeroP
  | some f => if takeE m l = 0 then madeN (m.at_ f.cid) f else zeroP
def takeB (m : Rcv) (l : List UInt8) : List UInt8 :=
  match readF l with
  | none => []
  | some f => if takeE m l = 0 ∨ takeE m l = 4 ∨ f.kind = 3 then [] else feedN (takeE m l) (((m.at_ f.cid).missed + 1) % 256) f.cid
def takeM (m : Rcv) (l : List UInt8) : Rcv :=
  match readF l with
  | none => m
  | some f => if takeE m l = 4 then m else if takeE m l = 0 then m.set f.cid (followN (m.at_ f.cid) f) else if f.kind = 3 then m else m.set f.cid { m.at_ f.cid with missed := ((m.at_ f.cid).missed + 1) % 256 }

end Go.Proofs.Ytgpojbgjfibblaa.texts

namespace Go.Proofs.Ytgpojbgjfibblaa.texts
open Go.RowKit
set_option linter.unusedVariables false

/-- what fits is told back by its lowest bits -/
theorem told16 {v r k p : Nat} (hk : k ≤ 16) (hp : p < 2 ^ k) (hv : v < 65536) (h : bits.fitR 16 v r k p = true) : (bits.lowR 16 k r p ((v % 2 ^ k : Nat) : Int)).toNat = v := by
  have t := (bits.tells_facts 16 r k p v (by omega) (by omega) (by omega) (by show (p : Int) < 2 ^ (k : Int).toNat; rw [Int.toNat_natCast]; exact_mod_cast hp) (by omega) (by show (v : Int) < 2 ^ 16; omega)).2.2.2.2
  rw [h] at t
  have e := (beq_iff_eq.1 t.symm)
  have e2 : bits.pw (k : Int).toNat = ((2 ^ k : Nat) : Int) := by unfold bits.pw; rw [Int.toNat_natCast]; simp
  rw [e2, ← Int.natCast_emod] at e
  rw [e]
  omega
theorem told32 {v r k p : Nat} (hk : k ≤ 32) (hp : p < 2 ^ k) (hv : v < 4294967296) (h : bits.fitR 32 v r k p = true) : (bits.lowR 32 k r p ((v % 2 ^ k : Nat) : Int)).toNat = v := by
  have t := (bits.tells_facts 32 r k p v (by omega) (by omega) (by omega) (by show (p : Int) < 2 ^ (k : Int).toNat; rw [Int.toNat_natCast]; exact_mod_cast hp) (by omega) (by show (v : Int) < 2 ^ 32; omega)).2.2.2.2
  rw [h] at t
  have e := (beq_iff_eq.1 t.symm)
  have e2 : bits.pw (k : Int).toNat = ((2 ^ k : Nat) : Int) := by unfold bits.pw; rw [Int.toNat_natCast]; simp
  rw [e2, ← Int.natCast_emod] at e
  rw [e]
  omega

/-- the lowest bits that a frame of a kind says of a state -/
def lowSt (kind : Nat) (n : St) : St := if kind = 1 then ⟨n.seq % 256, 0, n.offset % 256, n.lag % 256, 0⟩ else if kind = 0 then ⟨n.seq % 16, 0, 0, 0, 0⟩ else n
/-- a frame of a packet, taken apart -/
def partsF (kind turn cid : Nat) (n : St) (p : Pk) : Fr :=
  ⟨kind, cid, turn, if kind = 3 then p.src else 0, if kind = 3 then p.dst else 0, if kind = 3 then p.port else 0, lowSt kind n, chk (widthN kind) p, p.body⟩

theorem byteN_cons (b : UInt8) (l : List UInt8) : byteN (b :: l) 0 = b.toNat := by simp [byteN]
theorem byteN_succ (b : UInt8) (l : List UInt8) (i : Nat) : byteN (b :: l) (i + 1) = byteN l i := by simp [byteN]
theorem byteN_right (a b : List UInt8) (i : Nat) (h : a.length ≤ i) : byteN (a ++ b) i = byteN b (i - a.length) := by
  unfold byteN; rw [List.getElem?_append_right h]
theorem ofNat_toNat {n : Nat} (h : n < 256) : (UInt8.ofNat n).toNat = n := by rw [UInt8.toNat_ofNat']; omega
theorem byteN_be (n : Nat) (h : n < 256) (l : List UInt8) : byteN (be n 1 ++ l) 0 = n := by
  rw [wbe1 n h, List.singleton_append, byteN_cons, ofNat_toNat h]

theorem stateN_bodyless (p : Pk) (s : Nat) : stateN (bodyless p) s = stateN p s := rfl
theorem rest_parts (p : Pk) (l : List UInt8) : restL p ++ l = be p.seq 2 ++ (be p.time 4 ++ (be p.id 2 ++ (be p.flags 1 ++ l))) := by simp [restL]
theorem fields_rest (p : Pk) (hp : p.ok) (l : List UInt8) : fieldsP (restL p ++ l) (byteN (restL p ++ l) 8) = { bodyless p with src := 0, dst := 0, port := 0 } := by
  rw [rest_parts]
  have b1 : (be p.seq 2 ++ (be p.time 4 ++ (be p.id 2 ++ (be p.flags 1 ++ l)))).take 2 = be p.seq 2 := List.take_left' (by simp [be_length])
  have b2 : ((be p.seq 2 ++ (be p.time 4 ++ (be p.id 2 ++ (be p.flags 1 ++ l)))).take 6).drop 2 = be p.time 4 := slice_mid _ _ _ 2 6 (by simp [be_length]) (by simp [be_length])
  have b3 : ((be p.seq 2 ++ (be p.time 4 ++ (be p.id 2 ++ (be p.flags 1 ++ l)))).take 8).drop 6 = be p.id 2 := by
    have := slice_mid (be p.seq 2 ++ be p.time 4) (be p.id 2) (be p.flags 1 ++ l) 6 8 (by simp [be_length]) (by simp [be_length])
    simpa using this
  have b4 : byteN (be p.seq 2 ++ (be p.time 4 ++ (be p.id 2 ++ (be p.flags 1 ++ l)))) 8 = p.flags := by
    rw [byteN_right _ _ _ (by simp [be_length]), byteN_right _ _ _ (by simp [be_length]), byteN_right _ _ _ (by simp [be_length])]
    simp only [be_length]
    exact byteN_be _ hp.flags _
  unfold fieldsP bodyless
  rw [b1, b2, b3, b4, numOf_be _ 2 hp.seq, numOf_be _ 4 hp.time, numOf_be _ 2 hp.id]
theorem seem_hdr (p : Pk) (hp : p.ok) (l : List UInt8) : bodyless (seemP (hdrL p ++ l)) = bodyless p := by
  have g1 : (hdrL p ++ l).take 10 = be p.src 4 ++ (be p.dst 4 ++ be p.port 2) := by
    rw [show hdrL p ++ l = (be p.src 4 ++ (be p.dst 4 ++ be p.port 2)) ++ (restL p ++ l) by simp [hdrL, headL]]
    exact List.take_left' (by simp [be_length])
  have g2 : ((hdrL p ++ l).take 19).drop 10 = be p.seq 2 ++ (be p.time 4 ++ (be p.id 2 ++ be p.flags 1)) := by
    have := slice_mid (be p.src 4 ++ (be p.dst 4 ++ be p.port 2)) (be p.seq 2 ++ (be p.time 4 ++ (be p.id 2 ++ be p.flags 1))) l 10 19 (by simp [be_length]) (by simp [be_length])
    simpa [hdrL, headL, restL] using this
  unfold seemP
  rw [g1, g2]
  unfold withP bodyless
  have a1 : ((be p.src 4 ++ (be p.dst 4 ++ be p.port 2)).take 4) = be p.src 4 := List.take_left' (by simp [be_length])
  have a2 : ((be p.src 4 ++ (be p.dst 4 ++ be p.port 2)).take 8).drop 4 = be p.dst 4 := slice_mid _ _ _ 4 8 (by simp [be_length]) (by simp [be_length])
  have a3 : ((be p.src 4 ++ (be p.dst 4 ++ be p.port 2)).take 10).drop 8 = be p.port 2 := by
    have := slice_mid (be p.src 4 ++ be p.dst 4) (be p.port 2) [] 8 10 (by simp [be_length]) (by simp [be_length])
    simpa using this
  have b1 : ((be p.seq 2 ++ (be p.time 4 ++ (be p.id 2 ++ be p.flags 1))).take 2) = be p.seq 2 := List.take_left' (by simp [be_length])
  have b2 : ((be p.seq 2 ++ (be p.time 4 ++ (be p.id 2 ++ be p.flags 1))).take 6).drop 2 = be p.time 4 := slice_mid _ _ _ 2 6 (by simp [be_length]) (by simp [be_length])
  have b3 : ((be p.seq 2 ++ (be p.time 4 ++ (be p.id 2 ++ be p.flags 1))).take 8).drop 6 = be p.id 2 := by
    have := slice_mid (be p.seq 2 ++ be p.time 4) (be p.id 2) (be p.flags 1) 6 8 (by simp [be_length]) (by simp [be_length])
    simpa using this
  have b4 : ((be p.seq 2 ++ (be p.time 4 ++ (be p.id 2 ++ be p.flags 1))).take 9).drop 8 = be p.flags 1 := by
    have := slice_mid (be p.seq 2 ++ (be p.time 4 ++ be p.id 2)) (be p.flags 1) [] 8 9 (by simp [be_length]) (by simp [be_length])
    simpa using this
  simp only [a1, a2, a3, b1, b2, b3, b4, numOf_be _ 4 hp.src, numOf_be _ 4 hp.dst, numOf_be _ 2 hp.port, numOf_be _ 2 hp.seq, numOf_be _ 4 hp.time, numOf_be _ 2 hp.id, numOf_be _ 1 hp.flags]

/-- behind the header: the stride, the check, the body -/
theorem end_parts (f : Fr) (q : Pk) (s c : Nat) (body : List UInt8) (hs : s < 65536) (hc : c < 256) :
    endO f q (be s 2 ++ (be c 1 ++ body)) = some { f with told := stateN q s, chk := c, body := body } := by
  have h1 : (be s 2 ++ (be c 1 ++ body)).take 2 = be s 2 := List.take_left' (by simp [be_length])
  have h2 : byteN (be s 2 ++ (be c 1 ++ body)) 2 = c := by
    rw [byteN_right _ _ _ (by simp [be_length])]
    simp only [be_length]
    exact byteN_be _ hc _
  have h3 : (be s 2 ++ (be c 1 ++ body)).drop 3 = body := by
    rw [← List.append_assoc]
    exact List.drop_left' (by simp [be_length])
  unfold endO endF
  rw [if_neg (by simp [be_length]; omega), h1, h2, h3, numOf_be _ 2 hs]

theorem first_byte {k t c : Nat} (hk : k ≤ 3) (ht : t < 4) (hc : c < 8) : (64 * k + 16 * t + 2 * c) / 64 = k ∧ (64 * k + 16 * t + 2 * c) / 2 % 8 = c ∧ (64 * k + 16 * t + 2 * c) / 16 % 4 = t ∧ (64 * k + 16 * t + 2 * c) % 2 = 0 ∧ 64 * k + 16 * t + 2 * c < 256 := by omega

theorem inner_told {k t c : Nat} {n : St} {p : Pk} {s : Nat} (hk : k ≤ 3) (hp : p.ok) (hs : s < 65536) (hn : n = stateN p s) :
    innerO ⟨k, c, t, 0, 0, 0, St.zero, 0, []⟩ (toldN k n p ++ p.body) = some (partsF k t c n p) := by
  have c3 := chk_lt3 p
  have c7 := chk_lt7 p
  have c8 := chk_lt8 p
  have hns : n.stride = s := by rw [hn]; rfl
  obtain rfl | rfl | rfl | rfl : k = 0 ∨ k = 1 ∨ k = 2 ∨ k = 3 := by omega
  · have hB : 16 * (n.seq % 16) + 2 * chk 3 p < 256 := by omega
    have e0 := byteN_be _ hB p.body
    have ed : (be (16 * (n.seq % 16) + 2 * chk 3 p) 1 ++ p.body).drop 1 = p.body := List.drop_left' (by simp [be_length])
    simp only [innerO, toldN, tinyO, reduceIte, Nat.reduceEqDiff, e0, ed]
    rw [if_neg (by simp [be_length]; omega)]
    simp only [partsF, lowSt, widthN, reduceIte, Nat.reduceEqDiff, St.zero]
    rw [show (16 * (n.seq % 16) + 2 * chk 3 p) / 16 = n.seq % 16 by omega, show (16 * (n.seq % 16) + 2 * chk 3 p) / 2 % 8 = chk 3 p by omega]
  · have e : be (n.seq % 256) 1 ++ be (n.offset % 256) 1 ++ be (n.lag % 256) 1 ++ be (chk 7 p) 1 ++ p.body = UInt8.ofNat (n.seq % 256) :: UInt8.ofNat (n.offset % 256) :: UInt8.ofNat (n.lag % 256) :: UInt8.ofNat (chk 7 p) :: p.body := by
      rw [wbe1 _ (by omega), wbe1 _ (by omega), wbe1 _ (by omega), wbe1 _ (by omega)]; simp
    simp only [innerO, toldN, shortO, reduceIte, Nat.reduceEqDiff, e, byteN_cons, byteN_succ, List.drop_succ_cons, List.drop_zero, List.length_cons]
    rw [ofNat_toNat (show n.seq % 256 < 256 by omega), ofNat_toNat (show n.offset % 256 < 256 by omega), ofNat_toNat (show n.lag % 256 < 256 by omega), ofNat_toNat (show chk 7 p < 256 by omega)]
    rw [if_neg (by omega)]
    simp only [partsF, lowSt, widthN, reduceIte, Nat.reduceEqDiff, St.zero]
  · have e : restL p ++ be n.stride 2 ++ be (chk 8 p) 1 ++ p.body = restL p ++ (be n.stride 2 ++ (be (chk 8 p) 1 ++ p.body)) := by simp
    have ed : (restL p ++ (be n.stride 2 ++ (be (chk 8 p) 1 ++ p.body))).drop 9 = be n.stride 2 ++ (be (chk 8 p) 1 ++ p.body) := List.drop_left' (restL_length p)
    simp only [innerO, toldN, fullO, reduceIte, Nat.reduceEqDiff, e, ed]
    rw [if_neg (by simp only [List.length_append, restL_length, be_length]; omega), fields_rest p hp, end_parts _ _ _ _ _ (by omega) (by omega)]
    simp only [partsF, lowSt, widthN, reduceIte, Nat.reduceEqDiff]
    rw [hns, hn]
    rfl
  · have e : hdrL p ++ be n.stride 2 ++ be (chk 8 p) 1 ++ p.body = hdrL p ++ (be n.stride 2 ++ (be (chk 8 p) 1 ++ p.body)) := by simp
    have ed : (hdrL p ++ (be n.stride 2 ++ (be (chk 8 p) 1 ++ p.body))).drop 19 = be n.stride 2 ++ (be (chk 8 p) 1 ++ p.body) := List.drop_left' (hdrL_length p)
    have es := seem_hdr p hp (be n.stride 2 ++ (be (chk 8 p) 1 ++ p.body))
    have e1 : (seemP (hdrL p ++ (be n.stride 2 ++ (be (chk 8 p) 1 ++ p.body)))).src = p.src := by
      have := congrArg Pk.src es
      simpa only [bodyless] using this
    have e2 : (seemP (hdrL p ++ (be n.stride 2 ++ (be (chk 8 p) 1 ++ p.body)))).dst = p.dst := by
      have := congrArg Pk.dst es
      simpa only [bodyless] using this
    have e3 : (seemP (hdrL p ++ (be n.stride 2 ++ (be (chk 8 p) 1 ++ p.body)))).port = p.port := by
      have := congrArg Pk.port es
      simpa only [bodyless] using this
    simp only [innerO, toldN, wholeO, reduceIte, Nat.reduceEqDiff, e, ed, es, e1, e2, e3]
    rw [if_neg (by simp only [List.length_append, hdrL_length, be_length]; omega), end_parts _ _ _ _ _ (by omega) (by omega)]
    simp only [partsF, lowSt, widthN, reduceIte, Nat.reduceEqDiff]
    rw [hns, hn]
    rfl

theorem read_frame {k t c : Nat} {n : St} {p : Pk} {s : Nat} (hk : k ≤ 3) (ht : t < 4) (hc : c < 8) (hp : p.ok) (hs : s < 65536) (hn : n = stateN p s) (hb : p.body.length ≤ 100) :
    readF (frameN k t c n p) = some (partsF k t c n p) := by
  obtain ⟨f1, f2, f3, f4, f5⟩ := first_byte hk ht hc
  have e : frameN k t c n p = be (64 * k + 16 * t + 2 * c) 1 ++ (toldN k n p ++ p.body) := by simp [frameN]
  have e0 : byteN (frameN k t c n p) 0 = 64 * k + 16 * t + 2 * c := by rw [e]; exact byteN_be _ f5 _
  have ed : (frameN k t c n p).drop 1 = toldN k n p ++ p.body := by rw [e]; exact List.drop_left' (by simp [be_length])
  have el : (frameN k t c n p).length ≠ 0 := by rw [e]; simp only [List.length_append, be_length]; omega
  unfold readF
  rw [if_neg (by rw [e0]; omega), e0, ed]
  simp only [bareF, f1, f2, f3]
  rw [inner_told hk hp hs hn]
  simp only [cutO]
  rw [if_neg (by simp only [partsF]; omega)]

theorem made_back {n : St} {p : Pk} {s : Nat} (hp : p.ok) (hs : s < 65536) (hn : n = stateN p s) : packetN n p.src p.dst p.port p.body = p := by
  have h1 := timeN_stateN hp hs
  have h2 := hp.seq
  have h3 := hp.id
  rw [hn]
  unfold packetN
  rw [h1]
  simp only [stateN]
  have e : ((p.id + 65536 - p.seq) % 65536 + p.seq) % 65536 = p.id := by omega
  rw [e]

/-- a context that a frame of a kind can be told by -/
def Knows (c : Rx) (k turn : Nat) (n : St) (p : Pk) : Prop :=
  k = 3 ∨ (c.begun = true ∧ c.turn = turn ∧ c.src = p.src ∧ c.dst = p.dst ∧ c.port = p.port ∧ needsN n c.st ≤ k)
def Rx.of (p : Pk) (turn : Nat) (n : St) : Rx := ⟨true, p.src, p.dst, p.port, turn, n, 0⟩

theorem needs_tiny {n r : St} (h : needsN n r ≤ 0) : n.stride = r.stride ∧ n.flags = r.flags ∧ n.offset = r.offset ∧ n.lag = r.lag ∧ bits.fitR 16 n.seq r.seq 4 1 = true := by
  unfold needsN at h
  split at h
  · rename_i h1
    split at h
    · rename_i h2
      exact ⟨h1.1, h1.2, h2⟩
    · split at h <;> omega
  · omega
theorem needs_short {n r : St} (hn : n.ok) (h : needsN n r ≤ 1) : n.stride = r.stride ∧ n.flags = r.flags ∧ bits.fitR 16 n.seq r.seq 8 1 = true ∧ bits.fitR 16 n.offset r.offset 8 128 = true ∧ bits.fitR 32 n.lag r.lag 8 128 = true := by
  unfold needsN at h
  split at h
  · rename_i h1
    split at h
    · rename_i h2
      obtain ⟨e1, e2, e3⟩ := h2
      have hc4 : bits.cnt 4 16 = 16 := by decide
      have hc8 : bits.cnt 8 16 = 256 := by decide
      have hc8' : bits.cnt 8 32 = 256 := by decide
      have ho := hn.offset
      have hl := hn.lag
      refine ⟨h1.1, h1.2, ?_, ?_, ?_⟩
      · unfold bits.fitR at e3 ⊢
        rw [hc4] at e3
        rw [hc8]
        have e3 := of_decide_eq_true e3
        exact decide_eq_true ⟨by omega, by omega⟩
      · rw [← e1]
        unfold bits.fitR
        rw [hc8]
        refine decide_eq_true ⟨by omega, ?_⟩
        rw [show ((n.offset : Int) - ((n.offset : Int) - 128)) = 128 by omega]
        decide
      · rw [← e2]
        unfold bits.fitR
        rw [hc8']
        refine decide_eq_true ⟨by omega, ?_⟩
        rw [show ((n.lag : Int) - ((n.lag : Int) - 128)) = 128 by omega]
        decide
    · split at h
      · rename_i h2
        exact ⟨h1.1, h1.2, h2⟩
      · omega
  · omega

theorem follow_good {c : Rx} {k t cid : Nat} {n : St} {p : Pk} {s : Nat} (hk : k ≤ 3) (hp : p.ok) (hs : s < 65536) (hn : n = stateN p s) (h : Knows c k t n p) : followN c (partsF k t cid n p) = Rx.of p t n := by
  have no : n.ok := by rw [hn]; exact stateN_ok hp hs
  rcases h with rfl | ⟨h1, h2, h3, h4, h5, h6⟩
  · simp [followN, partsF, Rx.of, lowSt]
  · obtain rfl | rfl | rfl | rfl : k = 0 ∨ k = 1 ∨ k = 2 ∨ k = 3 := by omega
    · obtain ⟨a1, a2, a3, a4, a5⟩ := needs_tiny h6
      have e := told16 (k := 4) (p := 1) (by decide) (by decide) no.seq a5
      simp only [followN, partsF, Rx.of, lowSt, reduceIte, Nat.reduceEqDiff, afterTinyN, seqAfterN, h3, h4, h5, ← a1, ← a2, ← a3, ← a4]
      have e' : (bits.lowR 16 ((4 : Nat) : Int) (c.st.seq : Int) 1 ((n.seq % 16 : Nat) : Int)).toNat = n.seq := e
      rw [e']
    · obtain ⟨a1, a2, a3, a4, a5⟩ := needs_short no h6
      have e3 := told16 (k := 8) (p := 1) (by decide) (by decide) no.seq a3
      have e4 := told16 (k := 8) (p := 128) (by decide) (by decide) no.offset a4
      have e5 := told32 (k := 8) (p := 128) (by decide) (by decide) no.lag a5
      have e3' : (bits.lowR 16 ((8 : Nat) : Int) (c.st.seq : Int) 1 ((n.seq % 256 : Nat) : Int)).toNat = n.seq := e3
      have e4' : (bits.lowR 16 8 (c.st.offset : Int) 128 ((n.offset % 256 : Nat) : Int)).toNat = n.offset := e4
      have e5' : (bits.lowR 32 8 (c.st.lag : Int) 128 ((n.lag % 256 : Nat) : Int)).toNat = n.lag := e5
      simp only [followN, partsF, Rx.of, lowSt, reduceIte, Nat.reduceEqDiff, afterShortN, seqAfterN, h3, h4, h5, ← a1, ← a2]
      rw [e3', e4', e5']
    · simp [followN, partsF, Rx.of, lowSt, h3, h4, h5]
    · simp [followN, partsF, Rx.of, lowSt]

/-- a frame that a context can be told by gives its packet, and its state is the context's -/
theorem take_good {m : Rcv} {k t cid : Nat} {n : St} {p : Pk} {s : Nat} (hk : k ≤ 3) (ht : t < 4) (hcm : cid < m.cids) (hc8 : cid < 8) (hp : p.ok) (hs : s < 65536) (hn : n = stateN p s) (hb : p.body.length ≤ 100) (h : Knows (m.at_ cid) k t n p) :
    takeE m (frameN k t cid n p) = 0 ∧ takeP m (frameN k t cid n p) = p ∧ takeB m (frameN k t cid n p) = [] ∧ takeM m (frameN k t cid n p) = m.set cid (Rx.of p t n) := by
  have hr := read_frame hk ht hc8 hp hs hn hb
  have hf := follow_good (cid := cid) hk hp hs hn h
  have hmk : madeN (m.at_ cid) (partsF k t cid n p) = p := by
    unfold madeN
    rw [hf]
    exact made_back hp hs hn
  have hE : takeE m (frameN k t cid n p) = 0 := by
    unfold takeE
    rw [hr]
    simp only
    have ec : (partsF k t cid n p).cid = cid := rfl
    rw [ec, if_neg (by omega), hmk]
    unfold refusalN
    rcases h with rfl | ⟨h1, h2, _⟩
    · simp [partsF]
    · simp [partsF, h1, h2]
  refine ⟨hE, ?_, ?_, ?_⟩
  · unfold takeP
    rw [hr]
    simp only
    rw [if_pos hE]
    exact hmk
  · unfold takeB
    rw [hr]
    simp only
    rw [if_pos (Or.inl hE)]
  · unfold takeM
    rw [hr]
    simp only
    rw [if_neg (by omega), if_pos hE]
    rw [show (partsF k t cid n p).cid = cid from rfl, hf]

/-- any frame of a packet, at any context: it is refused, or what it gives has the packet's body and a header with its check -/
theorem take_some {m : Rcv} {k t cid : Nat} {n : St} {p : Pk} {s : Nat} (hk : k ≤ 3) (ht : t < 4) (hcm : cid < m.cids) (hc8 : cid < 8) (hp : p.ok) (hs : s < 65536) (hn : n = stateN p s) (hb : p.body.length ≤ 100) :
    (takeE m (frameN k t cid n p) = 0 ∧ (takeP m (frameN k t cid n p)).body = p.body ∧ chk (widthN k) (takeP m (frameN k t cid n p)) = chk (widthN k) p) ∨
    ((takeE m (frameN k t cid n p) = 8 ∨ takeE m (frameN k t cid n p) = 9 ∨ takeE m (frameN k t cid n p) = 10) ∧ takeP m (frameN k t cid n p) = zeroP ∧ k ≠ 3) := by
  have hr := read_frame hk ht hc8 hp hs hn hb
  by_cases hk3 : k = 3
  · obtain ⟨e1, e2, _, _⟩ := take_good (m := m) hk ht hcm hc8 hp hs hn hb (Or.inl hk3)
    exact Or.inl ⟨e1, by rw [e2], by rw [e2]⟩
  · have hE : takeE m (frameN k t cid n p) = refusalN (m.at_ cid) (partsF k t cid n p) (madeN (m.at_ cid) (partsF k t cid n p)) := by
      unfold takeE
      rw [hr]
      simp only
      have ec : (partsF k t cid n p).cid = cid := rfl
      rw [ec, if_neg (by omega)]
    by_cases h0 : takeE m (frameN k t cid n p) = 0
    · left
      have hP : takeP m (frameN k t cid n p) = madeN (m.at_ cid) (partsF k t cid n p) := by
        unfold takeP
        rw [hr]
        simp only
        rw [if_pos h0]
        rfl
      refine ⟨h0, ?_, ?_⟩
      · rw [hP]; rfl
      · rw [hE] at h0
        unfold refusalN at h0
        split at h0
        · omega
        · split at h0
          · omega
          · split at h0
            · rename_i e
              rw [hP]
              exact e.symm
            · omega
    · right
      refine ⟨?_, ?_, hk3⟩
      · rw [hE] at h0 ⊢
        unfold refusalN at h0 ⊢
        split at h0
        · rename_i e; rw [if_pos e]; exact Or.inl rfl
        · rename_i e; rw [if_neg e]
          split at h0
          · rename_i e2; rw [if_pos e2]; exact Or.inr (Or.inl rfl)
          · rename_i e2; rw [if_neg e2]
            split at h0
            · omega
            · rename_i e3; rw [if_neg e3]; exact Or.inr (Or.inr rfl)
      · unfold takeP
        rw [hr]
        simp only
        rw [if_neg h0]

end Go.Proofs.Ytgpojbgjfibblaa.texts

namespace Go.Proofs.Ytgpojbgjfibblaa.texts
open Go.RowKit
set_option linter.unusedVariables false

/-- the oldest of the first n: its rank is the greatest, and it is the first of that rank -/
theorem old_spec (m : Snd) : ∀ n, 1 ≤ n → oldN m n < n ∧ ∀ i, i < n → (m.at_ i).rank ≤ (m.at_ (oldN m n)).rank ∧ ((m.at_ i).rank = (m.at_ (oldN m n)).rank → oldN m n ≤ i) := by
  intro n
  induction n with
  | zero => intro h; omega
  | succ n ih =>
    intro _
    by_cases h0 : n = 0
    · subst h0
      have e : oldN m 1 = 0 := by simp [oldN]
      rw [e]
      refine ⟨by omega, fun i hi => ?_⟩
      have : i = 0 := by omega
      subst this
      exact ⟨Nat.le_refl _, fun _ => Nat.le_refl _⟩
    · obtain ⟨h1, h2⟩ := ih (by omega)
      have e : oldN m (n + 1) = if (m.at_ (oldN m n)).rank < (m.at_ n).rank then n else oldN m n := rfl
      rw [e]
      by_cases hc : (m.at_ (oldN m n)).rank < (m.at_ n).rank
      · rw [if_pos hc]
        refine ⟨by omega, fun i hi => ?_⟩
        by_cases hin : i = n
        · subst hin; exact ⟨Nat.le_refl _, fun _ => Nat.le_refl _⟩
        · have := (h2 i (by omega)).1
          exact ⟨by omega, fun _ => by omega⟩
      · rw [if_neg hc]
        refine ⟨by omega, fun i hi => ?_⟩
        by_cases hin : i = n
        · subst hin; exact ⟨by omega, fun _ => by omega⟩
        · exact h2 i (by omega)

/-- the first k contexts have flows, of different routes; their ranks are the numbers below k, each once; the others are as they were made -/
structure Fit (m : Snd) (k : Nat) : Prop where
  le : k ≤ m.cids
  has : ∀ i, i < k → 0 < (m.at_ i).kept
  blank : ∀ i, k ≤ i → i < 8 → m.at_ i = Cx.blank
  low : ∀ i, i < k → (m.at_ i).rank < k
  inj : ∀ i j, i < k → j < k → (m.at_ i).rank = (m.at_ j).rank → i = j
  uniq : ∀ i j, i < k → j < k → (m.at_ i).src = (m.at_ j).src → (m.at_ i).dst = (m.at_ j).dst → (m.at_ i).port = (m.at_ j).port → i = j

/-- a sender without flows -/
def freshN (cids keep refresh : Nat) : Snd := ⟨cids, keep, refresh, List.replicate 8 Cx.blank⟩
theorem fresh_at (c k r i : Nat) : (freshN c k r).at_ i = Cx.blank := by
  unfold freshN Snd.at_
  simp only [List.getD_eq_getElem?_getD, List.getElem?_replicate]
  split <;> rfl
theorem fresh_ok {c k r : Nat} (h1 : 1 ≤ c) (h2 : c ≤ 8) (h3 : 1 ≤ k) (h4 : k ≤ 4) (h5 : 2 ≤ r) (h6 : r ≤ 100) : (freshN c k r).ok :=
  ⟨h1, h2, h3, h4, h5, h6, by simp [freshN], fun d hd => by rw [List.eq_of_mem_replicate hd]; exact Cx.blank_ok⟩
theorem fresh_fit (c k r : Nat) : Fit (freshN c k r) 0 :=
  ⟨by omega, fun i h => by omega, fun i _ _ => fresh_at c k r i, fun i h => by omega, fun i j h => by omega, fun i j h => by omega⟩

theorem blank_has (a b d : Nat) : Cx.blank.hasB a b d = false := by simp [Cx.hasB, Cx.blank]
/-- a route that is known: its own context -/
theorem choose_known {m : Snd} (hm : m.ok) {k : Nat} (hf : Fit m k) {a b d i : Nat} (hi : i < k) (hr : (m.at_ i).src = a ∧ (m.at_ i).dst = b ∧ (m.at_ i).port = d) : chooseN m a b d = i := by
  have hk8 : k ≤ 8 := Nat.le_trans hf.le hm.c8
  have hl := hm.len
  have g : ∀ j (h : j < m.cs.length), m.cs[j] = m.at_ j := fun j h => by simp [Snd.at_, List.getD_eq_getElem?_getD, h]
  have e : m.cs.findIdx (fun c => c.hasB a b d) = i := by
    rw [List.findIdx_eq (by omega)]
    refine ⟨by rw [g]; simp [Cx.hasB, hf.has i hi, hr], fun j hj => ?_⟩
    rw [g]
    simp only [Cx.hasB, decide_eq_false_iff_not]
    rintro ⟨_, h2, h3, h4⟩
    have := hf.uniq j i (by omega) hi (by omega) (by omega) (by omega)
    omega
  unfold chooseN
  simp only [e]
  rw [if_pos (by omega)]
/-- a new route: the first context that has had no flow, or else the one of the greatest rank -/
theorem choose_new {m : Snd} (hm : m.ok) {k : Nat} (hf : Fit m k) {a b d : Nat} (hn : ∀ i, i < k → ¬ ((m.at_ i).src = a ∧ (m.at_ i).dst = b ∧ (m.at_ i).port = d)) :
    (k < m.cids → chooseN m a b d = k) ∧ (k = m.cids → chooseN m a b d < k ∧ ∀ i, i < k → (m.at_ i).rank ≤ (m.at_ (chooseN m a b d)).rank) := by
  have hk8 : k ≤ 8 := Nat.le_trans hf.le hm.c8
  have hc8 := hm.c8
  have hc1 := hm.c1
  have hl := hm.len
  have e : m.cs.findIdx (fun c => c.hasB a b d) = m.cs.length := by
    rw [List.findIdx_eq_length]
    intro c hc
    obtain ⟨j, hj, rfl⟩ := List.getElem_of_mem hc
    have g : m.cs[j] = m.at_ j := by simp [Snd.at_, List.getD_eq_getElem?_getD, hj]
    rw [g]
    by_cases hjk : j < k
    · simp only [Cx.hasB, decide_eq_false_iff_not]
      rintro ⟨_, h2⟩
      exact hn j hjk h2
    · rw [hf.blank j (by omega) (by omega)]
      exact blank_has a b d
  have e2 : chooseN m a b d = oldN m m.cids := by
    unfold chooseN
    simp only [e]
    rw [if_neg (by omega)]
  rw [e2]
  obtain ⟨h1, h2⟩ := old_spec m m.cids hc1
  refine ⟨fun hlt => ?_, fun heq => ?_⟩
  · have hb : (m.at_ k).rank = 8 := by rw [hf.blank k (Nat.le_refl _) (by omega)]; rfl
    have h3 := h2 k hlt
    have h4 := (Snd.at_ok hm (oldN m m.cids)).rank
    have h5 : oldN m m.cids ≤ k := h3.2 (by omega)
    by_cases h6 : oldN m m.cids = k
    · exact h6
    · have := hf.low (oldN m m.cids) (by omega)
      omega
  · rw [heq]
    rw [heq] at hf
    exact ⟨h1, fun i hi => (h2 i hi).1⟩

theorem fall_rank (r : Nat) (c : Cx) : (fallC r c).rank = if c.rank < r then c.rank + 1 else c.rank := by
  unfold fallC; split <;> rfl
theorem fall_rest (r : Nat) (c : Cx) : (fallC r c).src = c.src ∧ (fallC r c).dst = c.dst ∧ (fallC r c).port = c.port ∧ (fallC r c).kept = c.kept := by
  unfold fallC; split <;> exact ⟨rfl, rfl, rfl, rfl⟩
theorem fall_blank {r : Nat} (h : r ≤ 8) : fallC r Cx.blank = Cx.blank := by
  unfold fallC; rw [if_neg (by show ¬ (8 < r); omega)]

/-- a context that has a flow is sent on: its rank is 0 now, those ahead of it fall back -/
theorem fit_old {m m' : Snd} {k i r : Nat} {X : Cx} (hm : m.ok) (hf : Fit m k) (hc : m'.cids = m.cids) (hat : ∀ j, j < 8 → m'.at_ j = if j = i then X else fallC r (m.at_ j)) (h0 : X.rank = 0) (hk : 0 < X.kept) (hi : i < k) (hr : r = (m.at_ i).rank)
    (hu : ∀ j, j < k → j ≠ i → ¬ ((m.at_ j).src = X.src ∧ (m.at_ j).dst = X.dst ∧ (m.at_ j).port = X.port)) : Fit m' k := by
  have hk8 : k ≤ 8 := Nat.le_trans hf.le hm.c8
  have hil := hf.low i hi
  have rk : ∀ j, j < k → (m'.at_ j).rank = if j = i then 0 else if (m.at_ j).rank < r then (m.at_ j).rank + 1 else (m.at_ j).rank := by
    intro j hj
    rw [hat j (by omega)]
    by_cases e : j = i
    · rw [if_pos e, if_pos e, h0]
    · rw [if_neg e, if_neg e, fall_rank]
  refine ⟨by rw [hc]; exact hf.le, fun j hj => ?_, fun j hj hj8 => ?_, fun j hj => ?_, fun j l hj hl he => ?_, fun j l hj hl h1 h2 h3 => ?_⟩
  · rw [hat j (by omega)]
    split
    · exact hk
    · rw [(fall_rest r _).2.2.2]; exact hf.has j hj
  · rw [hat j hj8, if_neg (by omega), hf.blank j hj hj8]
    exact fall_blank (by omega)
  · rw [rk j hj]
    have := hf.low j hj
    split
    · omega
    · split <;> omega
  · rw [rk j hj, rk l hl] at he
    by_cases e1 : j = i
    · by_cases e2 : l = i
      · omega
      · rw [if_pos e1, if_neg e2] at he
        have h1 : ¬ (m.at_ l).rank = (m.at_ i).rank := fun e => e2 (hf.inj l i hl hi e)
        split at he <;> omega
    · by_cases e2 : l = i
      · rw [if_neg e1, if_pos e2] at he
        have h1 : ¬ (m.at_ j).rank = (m.at_ i).rank := fun e => e1 (hf.inj j i hj hi e)
        split at he <;> omega
      · rw [if_neg e1, if_neg e2] at he
        have h1 : ¬ (m.at_ l).rank = (m.at_ i).rank := fun e => e2 (hf.inj l i hl hi e)
        have h2 : ¬ (m.at_ j).rank = (m.at_ i).rank := fun e => e1 (hf.inj j i hj hi e)
        refine hf.inj j l hj hl ?_
        split at he <;> split at he <;> omega
  · rw [hat j (by omega), hat l (by omega)] at h1 h2 h3
    by_cases e1 : j = i
    · by_cases e2 : l = i
      · omega
      · rw [if_pos e1, if_neg e2] at h1 h2 h3
        have f := fall_rest r (m.at_ l)
        exact absurd ⟨f.1 ▸ h1.symm, f.2.1 ▸ h2.symm, f.2.2.1 ▸ h3.symm⟩ (hu l hl e2)
    · by_cases e2 : l = i
      · rw [if_neg e1, if_pos e2] at h1 h2 h3
        have f := fall_rest r (m.at_ j)
        exact absurd ⟨f.1 ▸ h1, f.2.1 ▸ h2, f.2.2.1 ▸ h3⟩ (hu j hj e1)
      · rw [if_neg e1, if_neg e2] at h1 h2 h3
        have f := fall_rest r (m.at_ j)
        have f2 := fall_rest r (m.at_ l)
        rw [f.1, f2.1] at h1
        rw [f.2.1, f2.2.1] at h2
        rw [f.2.2.1, f2.2.2.1] at h3
        exact hf.uniq j l hj hl h1 h2 h3

/-- a context gets its first flow -/
theorem fit_new {m m' : Snd} {k : Nat} {X : Cx} (hm : m.ok) (hf : Fit m k) (hc : m'.cids = m.cids) (hat : ∀ j, j < 8 → m'.at_ j = if j = k then X else fallC 8 (m.at_ j)) (h0 : X.rank = 0) (hk : 0 < X.kept) (hlt : k < m.cids)
    (hu : ∀ j, j < k → ¬ ((m.at_ j).src = X.src ∧ (m.at_ j).dst = X.dst ∧ (m.at_ j).port = X.port)) : Fit m' (k + 1) := by
  have hk8 : k < 8 := Nat.lt_of_lt_of_le hlt hm.c8
  have rk : ∀ j, j < k + 1 → (m'.at_ j).rank = if j = k then 0 else (m.at_ j).rank + 1 := by
    intro j hj
    rw [hat j (by omega)]
    by_cases e : j = k
    · rw [if_pos e, if_pos e, h0]
    · rw [if_neg e, if_neg e, fall_rank, if_pos (by have := hf.low j (by omega); omega)]
  refine ⟨by rw [hc]; omega, fun j hj => ?_, fun j hj hj8 => ?_, fun j hj => ?_, fun j l hj hl he => ?_, fun j l hj hl h1 h2 h3 => ?_⟩
  · rw [hat j (by omega)]
    split
    · exact hk
    · rw [(fall_rest 8 _).2.2.2]; exact hf.has j (by omega)
  · rw [hat j hj8, if_neg (by omega), hf.blank j (by omega) hj8]
    exact fall_blank (by omega)
  · rw [rk j hj]
    split
    · omega
    · have := hf.low j (by omega)
      omega
  · rw [rk j hj, rk l hl] at he
    by_cases e1 : j = k
    · by_cases e2 : l = k
      · omega
      · rw [if_pos e1, if_neg e2] at he; omega
    · by_cases e2 : l = k
      · rw [if_neg e1, if_pos e2] at he; omega
      · rw [if_neg e1, if_neg e2] at he
        exact hf.inj j l (by omega) (by omega) (by omega)
  · rw [hat j (by omega), hat l (by omega)] at h1 h2 h3
    by_cases e1 : j = k
    · by_cases e2 : l = k
      · omega
      · rw [if_pos e1, if_neg e2] at h1 h2 h3
        have f := fall_rest 8 (m.at_ l)
        exact absurd ⟨f.1 ▸ h1.symm, f.2.1 ▸ h2.symm, f.2.2.1 ▸ h3.symm⟩ (hu l (by omega))
    · by_cases e2 : l = k
      · rw [if_neg e1, if_pos e2] at h1 h2 h3
        have f := fall_rest 8 (m.at_ j)
        exact absurd ⟨f.1 ▸ h1, f.2.1 ▸ h2, f.2.2.1 ▸ h3⟩ (hu j (by omega))
      · rw [if_neg e1, if_neg e2] at h1 h2 h3
        have f := fall_rest 8 (m.at_ j)
        have f2 := fall_rest 8 (m.at_ l)
        rw [f.1, f2.1] at h1
        rw [f.2.1, f2.2.1] at h2
        rw [f.2.2.1, f2.2.2.1] at h3
        exact hf.uniq j l (by omega) (by omega) h1 h2 h3

theorem fall_at (m : Snd) (r j : Nat) (h : j < m.cs.length) : (fallN m r).at_ j = fallC r (m.at_ j) := by
  simp only [fallN, Snd.at_, List.getD_eq_getElem?_getD, List.getElem?_map, List.getElem?_eq_getElem h]
  rfl
theorem send_at {m : Snd} (hm : m.ok) (p : Pk) (j : Nat) (hj : j < 8) :
    (sendM m p).at_ j = if j = chooseN m p.src p.dst p.port then sentN (metN m p) (sendK m p) (nextN m p) m.keep else fallC (metN m p).rank (m.at_ j) := by
  have hl := hm.len
  unfold sendM
  rw [Snd.set_at _ _ _ _ (by simp [fallN, hl]; exact chooseN_lt hm _ _ _)]
  split
  · rfl
  · exact fall_at m _ j (by omega)
theorem send_cids (m : Snd) (p : Pk) : (sendM m p).cids = m.cids ∧ (sendM m p).keep = m.keep ∧ (sendM m p).refresh = m.refresh := ⟨rfl, rfl, rfl⟩
theorem sent_rest (c : Cx) (kind : Nat) (n : St) (keep : Nat) (hk : 1 ≤ keep) : (sentN c kind n keep).rank = 0 ∧ 0 < (sentN c kind n keep).kept ∧ (sentN c kind n keep).src = c.src ∧ (sentN c kind n keep).dst = c.dst ∧ (sentN c kind n keep).port = c.port := by
  refine ⟨rfl, ?_, rfl, rfl, rfl⟩
  simp only [sentN, addN]
  split <;> omega

/-- a route is known, or it is new -/
theorem fit_send {m : Snd} (hm : m.ok) {k : Nat} (hf : Fit m k) (p : Pk) :
    (∃ i, i < k ∧ chooseN m p.src p.dst p.port = i ∧ metN m p = m.at_ i ∧ Fit (sendM m p) k) ∨
    (k < m.cids ∧ chooseN m p.src p.dst p.port = k ∧ metN m p = beginN Cx.blank p.src p.dst p.port m.keep ∧ Fit (sendM m p) (k + 1)) ∨
    (k = m.cids ∧ ∃ i, i < k ∧ chooseN m p.src p.dst p.port = i ∧ (∀ j, j < k → (m.at_ j).rank ≤ (m.at_ i).rank) ∧ metN m p = beginN (m.at_ i) p.src p.dst p.port m.keep ∧ Fit (sendM m p) k) := by
  have hk8 : k ≤ 8 := Nat.le_trans hf.le hm.c8
  have hat := send_at hm p
  have sr := sent_rest (metN m p) (sendK m p) (nextN m p) m.keep hm.k1
  by_cases hr : ∃ i, i < k ∧ ((m.at_ i).src = p.src ∧ (m.at_ i).dst = p.dst ∧ (m.at_ i).port = p.port)
  · obtain ⟨i, hi, h1⟩ := hr
    have e := choose_known hm hf hi h1
    have hh : (m.at_ i).hasB p.src p.dst p.port = true := by simp [Cx.hasB, hf.has i hi, h1]
    have em : metN m p = m.at_ i := by unfold metN; rw [e]; simp [hh]
    refine Or.inl ⟨i, hi, e, em, ?_⟩
    rw [e, em] at hat
    rw [em] at sr
    refine fit_old (r := (m.at_ i).rank) hm hf rfl hat sr.1 sr.2.1 hi rfl (fun j hj hne hs => hne (hf.uniq j i hj hi ?_ ?_ ?_))
    · rw [hs.1, sr.2.2.1]
    · rw [hs.2.1, sr.2.2.2.1]
    · rw [hs.2.2, sr.2.2.2.2]
  · have hn : ∀ i, i < k → ¬ ((m.at_ i).src = p.src ∧ (m.at_ i).dst = p.dst ∧ (m.at_ i).port = p.port) := fun i hi h => hr ⟨i, hi, h⟩
    obtain ⟨c1, c2⟩ := choose_new hm hf hn
    by_cases hlt : k < m.cids
    · have e := c1 hlt
      have hb := hf.blank k (Nat.le_refl _) (by have := hm.c8; omega)
      have em : metN m p = beginN Cx.blank p.src p.dst p.port m.keep := by unfold metN; rw [e, hb]; simp [blank_has]
      refine Or.inr (Or.inl ⟨hlt, e, em, ?_⟩)
      rw [e] at hat
      have er : (metN m p).rank = 8 := by rw [em]; rfl
      rw [er] at hat
      refine fit_new hm hf rfl hat sr.1 sr.2.1 hlt (fun j hj hs => hn j hj ?_)
      rw [sr.2.2.1, sr.2.2.2.1, sr.2.2.2.2, em] at hs
      exact hs
    · have hkc : k = m.cids := by have := hf.le; omega
      obtain ⟨h1, h2⟩ := c2 hkc
      obtain ⟨i, hi⟩ : ∃ i, i = chooseN m p.src p.dst p.port := ⟨_, rfl⟩
      rw [← hi] at h1 h2
      have hh : (m.at_ i).hasB p.src p.dst p.port = false := by
        simp only [Cx.hasB, decide_eq_false_iff_not]
        rintro ⟨_, h3⟩
        exact hn i h1 h3
      have em : metN m p = beginN (m.at_ i) p.src p.dst p.port m.keep := by unfold metN; rw [← hi]; simp [hh]
      refine Or.inr (Or.inr ⟨hkc, i, h1, hi.symm, h2, em, ?_⟩)
      rw [← hi] at hat
      have er : (metN m p).rank = (m.at_ i).rank := by rw [em]; rfl
      rw [er] at hat
      refine fit_old (r := (m.at_ i).rank) hm hf rfl hat sr.1 sr.2.1 h1 rfl (fun j hj hne hs => hn j hj ?_)
      rw [sr.2.2.1, sr.2.2.2.1, sr.2.2.2.2, em] at hs
      exact hs

end Go.Proofs.Ytgpojbgjfibblaa.texts
