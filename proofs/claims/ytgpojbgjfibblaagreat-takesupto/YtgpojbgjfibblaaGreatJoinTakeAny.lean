/-
  A packet among the arguments, opened: its cells, and that its numbers have their widths. A configuration and a script among the arguments, opened. A frame of a packet, taken: what it is taken apart into, and that the packet comes out again. The form of a frame, by the document; what a frame tells. The walks of the document's ahead, shaped and asks (package gistref). The walk of the document's made (package gistref): what a frame tells. The walk of the document's made (package gistref): short and tiny frames. The walk of the program's Take (package receiver). The walk of the program's Take (package receiver), of a text that has the form of a frame. The walks of the program's Take whole (packages receiver and gist).
  Conditions stand in each theorem.
-/
import Derived.Test.YtgpojbgjfibblaaGreatPart2
import Derived.ProofKit
import Derived.OpenShut
import Derived.Test.YtgpojbgjfibblaaGreatSendsWalk
import Derived.Deep.Slices
import Derived.Test.YtgpojbgjfibblaaGreatPart37
import Derived.Test.YtgpojbgjfibblaaGreatPart5
import Derived.Test.YtgpojbgjfibblaaGreatPart10
import Derived.Test.YtgpojbgjfibblaaGreatRefSays
import Derived.Test.YtgpojbgjfibblaaGreatRcvWalk
import Derived.Test.YtgpojbgjfibblaaGreatConfWalk
import Derived.Test.YtgpojbgjfibblaaGreatPart33
import Derived.Deep.DeepCutAuto
import Derived.Test.YtgpojbgjfibblaaGreatRcvTake
namespace Go.Proofs.YtgpojbgjfibblaaGreat.texts
open Go.RowKit
set_option linter.unusedVariables false

theorem cellsPacket : Tryz.prog.cellsOf 41 = 8 := by kernel_rfl
theorem cellsRoute : Tryz.prog.cellsOf 39 = 3 := by kernel_rfl
theorem cells8' : Tryz.prog.cellsOf 5 = 1 := by kernel_rfl
theorem cells16 : Tryz.prog.cellsOf 37 = 1 := by kernel_rfl
theorem cells32 : Tryz.prog.cellsOf 36 = 1 := by kernel_rfl
theorem cellsInt : Tryz.prog.cellsOf 3 = 1 := by kernel_rfl
theorem cellsString : Tryz.prog.cellsOf 9 = 1 := by kernel_rfl

theorem wf8 {a : Int} (h : (Lit.int .u8 a).wf = true) : ∃ n : Nat, a = n ∧ n < 256 := by
  have h : 0 ≤ a ∧ a ≤ 255 := by simpa [Lit.wf, IntKind.min, IntKind.max, IntKind.signed, IntKind.bits] using h
  exact ⟨a.toNat, by omega, by omega⟩
theorem wf16 {a : Int} (h : (Lit.int .u16 a).wf = true) : ∃ n : Nat, a = n ∧ n < 65536 := by
  have h : 0 ≤ a ∧ a ≤ 65535 := by simpa [Lit.wf, IntKind.min, IntKind.max, IntKind.signed, IntKind.bits] using h
  exact ⟨a.toNat, by omega, by omega⟩
theorem wf32 {a : Int} (h : (Lit.int .u32 a).wf = true) : ∃ n : Nat, a = n ∧ n < 4294967296 := by
  have h : 0 ≤ a ∧ a ≤ 4294967295 := by simpa [Lit.wf, IntKind.min, IntKind.max, IntKind.signed, IntKind.bits] using h
  exact ⟨a.toNat, by omega, by omega⟩

theorem list8 {α : Type} {l : List α} (h : l.length = 8) : ∃ a b c d e f g i, l = [a, b, c, d, e, f, g, i] := by
  match l, h with
  | [a, b, c, d, e, f, g, i], _ => exact ⟨a, b, c, d, e, f, g, i, rfl⟩
theorem list6 {α : Type} {l : List α} (h : l.length = 6) : ∃ a b c d e f, l = [a, b, c, d, e, f] := by
  match l, h with
  | [a, b, c, d, e, f], _ => exact ⟨a, b, c, d, e, f, rfl⟩

section
variable {H : Type} {enc : TypeId × Value → H} {w : World} {base : Nat} {spare : Nat → Bool} {held : Bool}

theorem open_route {fuel : Nat} {c0 c1 c2 : Value} {x : DataW H × List MemPlace} (h : DataW.trod enc Tryz.prog w base spare held fuel 39 [c0, c1, c2] = some x) :
    ∃ a b c : Nat, a < 4294967296 ∧ b < 4294967296 ∧ c < 65536 ∧ c0 = .int .u32 a ∧ c1 = .int .u32 b ∧ c2 = .int .u16 c ∧ x.1 = .agg [.lit (.int .u32 a), .lit (.int .u32 b), .lit (.int .u16 c)] := by
  obtain ⟨xs, n, _, rfl, hl, hlen, hf⟩ := DataW.trod_struct Tryz.underlying39 h
  match xs, hlen with
  | [y0, y1, y2], _ =>
    have f0 := hf 0 _ rfl
    have f1 := hf 1 _ rfl
    have f2 := hf 2 _ rfl
    simp [cells32, cells16] at f0 f1 f2
    obtain ⟨a, e0, d0, wa⟩ := DataW.trod_int Tryz.underlying36 f0
    obtain ⟨b, e1, d1, wb⟩ := DataW.trod_int Tryz.underlying36 f1
    obtain ⟨c, e2, d2, wc⟩ := DataW.trod_int Tryz.underlying37 f2
    obtain ⟨a, rfl, ha⟩ := wf32 wa
    obtain ⟨b, rfl, hb⟩ := wf32 wb
    obtain ⟨c, rfl, hc⟩ := wf16 wc
    simp at e0 e1 e2
    exact ⟨a, b, c, ha, hb, hc, e0, e1, e2, by simp [d0, d1, d2]⟩

set_option maxRecDepth 10000 in
theorem open_pk {fuel : Nat} {cs : List Value} {x : DataW H × List MemPlace} (h : DataW.trod enc Tryz.prog w base spare held fuel 41 cs = some x) :
    ∃ p : Pk, p.ok ∧ p.body.length ≤ maxLen ∧ cs = p.cells.toList ∧ x.1 = .agg [.agg [.lit (.int .u32 p.src), .lit (.int .u32 p.dst), .lit (.int .u16 p.port)], .lit (.int .u16 p.seq), .lit (.int .u32 p.time), .lit (.int .u16 p.id), .lit (.int .u8 p.flags), .lit (.string p.body)] := by
  obtain ⟨xs, n, _, rfl, hl, hlen, hf⟩ := DataW.trod_struct Tryz.underlying41 h
  rw [cellsPacket] at hl
  obtain ⟨c0, c1, c2, c3, c4, c5, c6, c7, rfl⟩ := list8 hl
  obtain ⟨y0, y1, y2, y3, y4, y5, rfl⟩ := list6 hlen
  have f0 := hf 0 _ rfl
  have f1 := hf 1 _ rfl
  have f2 := hf 2 _ rfl
  have f3 := hf 3 _ rfl
  have f4 := hf 4 _ rfl
  have f5 := hf 5 _ rfl
  simp [cellsRoute, cells32, cells16, cells8', cellsString] at f0 f1 f2 f3 f4 f5
  obtain ⟨a, b, c, ha, hb, hc, rfl, rfl, rfl, d0⟩ := open_route f0
  obtain ⟨q, e1, d1, wq⟩ := DataW.trod_int Tryz.underlying37 f1
  obtain ⟨t, e2, d2, wt⟩ := DataW.trod_int Tryz.underlying36 f2
  obtain ⟨i, e3, d3, wi⟩ := DataW.trod_int Tryz.underlying37 f3
  obtain ⟨f, e4, d4, wf⟩ := DataW.trod_int Tryz.underlying5 f4
  obtain ⟨s, e5, d5, ws⟩ := DataW.trod_string Tryz.underlying9 f5
  obtain ⟨q, rfl, hq⟩ := wf16 wq
  obtain ⟨t, rfl, ht⟩ := wf32 wt
  obtain ⟨i, rfl, hi⟩ := wf16 wi
  obtain ⟨f, rfl, hf'⟩ := wf8 wf
  simp at e1 e2 e3 e4 e5
  subst e1 e2 e3 e4 e5
  refine ⟨⟨a, b, c, q, t, i, f, s.data.toList⟩, ⟨ha, hb, hc, hq, ht, hi, hf'⟩, by simpa using ws, by simp [Pk.cells, bs_of], by simp [d0, d1, d2, d3, d4, d5]⟩
end

end Go.Proofs.YtgpojbgjfibblaaGreat.texts

namespace Go.Proofs.YtgpojbgjfibblaaGreat.texts
open Go.RowKit
set_option linter.unusedVariables false

theorem cellsOp : Tryz.prog.cellsOf 43 = 11 := by kernel_rfl
theorem cellsConf : Tryz.prog.cellsOf 23 = 3 := by kernel_rfl
theorem list11 {α : Type} {l : List α} (h : l.length = 11) : ∃ a b c d e f g i j k m, l = [a, b, c, d, e, f, g, i, j, k, m] := by
  match l, h with
  | [a, b, c, d, e, f, g, i, j, k, m], _ => exact ⟨a, b, c, d, e, f, g, i, j, k, m, rfl⟩
theorem list4 {α : Type} {l : List α} (h : l.length = 4) : ∃ a b c d, l = [a, b, c, d] := by
  match l, h with
  | [a, b, c, d], _ => exact ⟨a, b, c, d, rfl⟩
theorem list3' {α : Type} {l : List α} (h : l.length = 3) : ∃ a b c, l = [a, b, c] := by
  match l, h with
  | [a, b, c], _ => exact ⟨a, b, c, rfl⟩
theorem wf64' {a : Int} (h : (Lit.int .i64 a).wf = true) : -9223372036854775808 ≤ a ∧ a ≤ 9223372036854775807 := by
  simpa [Lit.wf, IntKind.min, IntKind.max, IntKind.signed, IntKind.bits] using h

section
variable {H : Type} {enc : TypeId × Value → H} {w : World} {base : Nat} {spare : Nat → Bool} {held : Bool}

set_option maxRecDepth 10000 in
theorem open_op {fuel : Nat} {cs : List Value} {x : DataW H × List MemPlace} (h : DataW.trod enc Tryz.prog w base spare held fuel 43 cs = some x) :
    ∃ o : Oq, o.ok ∧ cs = o.cells.toList := by
  obtain ⟨xs, n, _, rfl, hl, hlen, hf⟩ := DataW.trod_struct Tryz.underlying43 h
  rw [cellsOp] at hl
  obtain ⟨c0, c1, c2, c3, c4, c5, c6, c7, c8, c9, c10, rfl⟩ := list11 hl
  obtain ⟨y0, y1, y2, y3, rfl⟩ := list4 hlen
  have f0 := hf 0 _ rfl
  have f1 := hf 1 _ rfl
  have f2 := hf 2 _ rfl
  have f3 := hf 3 _ rfl
  simp [cellsPacket, cellsString, cellsInt] at f0 f1 f2 f3
  obtain ⟨a, e0, d0, w0⟩ := DataW.trod_int Tryz.underlying3 f0
  obtain ⟨b, e1, d1, w1⟩ := DataW.trod_int Tryz.underlying3 f1
  obtain ⟨p, hp, hpb, e2, d2⟩ := open_pk f2
  obtain ⟨s, e3, d3, ws⟩ := DataW.trod_string Tryz.underlying9 f3
  simp at e0 e1 e3
  subst e0 e1 e3
  refine ⟨⟨a, b, p, s.data.toList⟩, ⟨wf64' w0, wf64' w1, hp, by simpa using ws⟩, ?_⟩
  simp only [Pk.cells, List.cons.injEq, and_true] at e2
  obtain ⟨rfl, rfl, rfl, rfl, rfl, rfl, rfl, rfl⟩ := e2
  simp [Oq.cells, bs_of]

theorem open_conf {fuel : Nat} {cs : List Value} {x : DataW H × List MemPlace} (h : DataW.trod enc Tryz.prog w base spare held fuel 23 cs = some x) :
    ∃ a k r : Int, cs = [.int .i64 a, .int .i64 k, .int .i64 r] := by
  obtain ⟨xs, n, _, rfl, hl, hlen, hf⟩ := DataW.trod_struct Tryz.underlying23 h
  rw [cellsConf] at hl
  obtain ⟨c0, c1, c2, rfl⟩ := list3' hl
  obtain ⟨y0, y1, y2, rfl⟩ := list3' hlen
  have f0 := hf 0 _ rfl
  have f1 := hf 1 _ rfl
  have f2 := hf 2 _ rfl
  simp [cellsInt] at f0 f1 f2
  obtain ⟨a, e0, d0, w0⟩ := DataW.trod_int Tryz.underlying3 f0
  obtain ⟨b, e1, d1, w1⟩ := DataW.trod_int Tryz.underlying3 f1
  obtain ⟨c, e2, d2, w2⟩ := DataW.trod_int Tryz.underlying3 f2
  simp at e0 e1 e2
  subst e0 e1 e2
  exact ⟨a, b, c, rfl⟩

theorem ops_data {fuel : Nat} {a : Option Addr} {len cap : Nat} {x : DataW H × List MemPlace} (h : DataW.trod enc Tryz.prog w base spare held fuel 24 (Value.slice a len cap).cells.toList = some x) :
    len = 0 ∨ ∃ es sp, x.1 = .slice es sp ∧ es.length = len := by
  rcases Go.Deep.open_slice Tryz.underlying24 h with ⟨hcs, _⟩ | ⟨a, len, cap, m, n, D, Pl, hcs, hb, hl, hm, hmm, hx, hel⟩
  · simp [Value.cells] at hcs
    exact Or.inl hcs.2.1
  · simp [Value.cells] at hcs
    obtain ⟨rfl, rfl, rfl⟩ := hcs
    exact Or.inr ⟨_, _, by rw [hx], by simp⟩

theorem open_ops {fuel : Nat} {v : Value} {x : DataW H × List MemPlace} (hv : ∃ a len cap, v = .slice a len cap) (h : DataW.trod enc Tryz.prog w base spare held fuel 24 v.cells.toList = some x) :
    ∃ (S : List Oq) (ao : Option Addr) (b off cap : Nat), OpsAt w v S ao b off cap ∧ S.length ≤ maxLen ∧ (∀ (i : Nat) (hi : i < S.length), (S[i]).ok) := by
  obtain ⟨a0, l0, c0, rfl⟩ := hv
  rcases Go.Deep.open_slice Tryz.underlying24 h with ⟨hcs, _⟩ | ⟨a, len, cap, m, n, D, Pl, hcs, hb, hl, hm, hmm, hx, hel⟩
  · simp [Value.cells] at hcs
    obtain ⟨rfl, rfl, rfl⟩ := hcs
    exact ⟨[], none, 0, 0, 0, ⟨rfl, fun h => by simp at h, fun i hi => by simp at hi⟩, by simp, fun i hi => by simp at hi⟩
  · simp [Value.cells] at hcs
    obtain ⟨rfl, rfl, rfl⟩ := hcs
    have hlm : l0 ≤ m := by rw [hmm]; split <;> omega
    have each : ∀ i, i < l0 → ∃ o : Oq, o.ok ∧ ∀ j, j < 11 → w.cell? (a.add (i * 11 + j)) = o.cells[j]? := by
      intro i hi
      obtain ⟨cs', h1, h2⟩ := hel i (by omega)
      rw [cellsOp] at h1
      obtain ⟨_, hlen, hcell⟩ := World.cells?_some h1
      obtain ⟨o, ho, rfl⟩ := open_op h2
      refine ⟨o, ho, fun j hj => ?_⟩
      have := hcell j hj
      rw [Go.Deep.add_add] at this
      rw [this]
      have hs : j < o.cells.size := hj
      simp [hs]
    have : Inhabited Oq := ⟨⟨0, 0, zeroP, []⟩⟩
    obtain ⟨q, hq⟩ := Go.Deep.choose_lt each
    have hll : ((List.range l0).map q).length = l0 := by simp
    have hget : ∀ i (hi : i < ((List.range l0).map q).length), ((List.range l0).map q)[i] = q i := fun i hi => by simp
    refine ⟨(List.range l0).map q, some a, a.block, a.off, c0, ⟨by rw [hll], fun h0 => ?_, fun i hi j hj => ?_⟩, by rw [hll]; omega, fun i hi => ?_⟩
    · rw [hll] at h0
      have hc := (hq 0 h0).2 0 (by omega)
      have hc := World.cell?_spot hc
      obtain ⟨b, o, s⟩ := a
      simp [Addr.add] at hc
      rw [hc]
    · rw [hget i hi]
      rw [hll] at hi
      have hc := (hq i hi).2 j hj
      have hs := World.cell?_spot ((hq 0 (by omega)).2 0 (by omega))
      obtain ⟨b, o, s⟩ := a
      simp [Addr.add] at hs
      subst hs
      rw [← hc, show ((⟨b, o, none⟩ : Addr).add (i * 11 + j)) = ⟨b, o + (i * 11 + j), none⟩ by simp [Addr.add], Nat.add_assoc]
    · rw [hget i hi]
      rw [hll] at hi
      exact (hq i hi).1
end

end Go.Proofs.YtgpojbgjfibblaaGreat.texts

namespace Go.Proofs.YtgpojbgjfibblaaGreat.texts
open Go.RowKit
set_option linter.unusedVariables false

/-- what fits is told back by its lowest bits -/
theorem told16 {v r k p : Nat} (hk : k ≤ 16) (hp : p < 2 ^ k) (hv : v < 65536) (h : bits.fitR 16 v r k p = true) : (bits.lowR 16 k r p ((v % 2 ^ k : Nat) : Int)).toNat = v := by
  have t := (bits.tells_facts 16 r k p v (by omega) (by omega) (by omega) (by show (p : Int) < 2 ^ (k : Int).toNat; rw [Int.toNat_natCast]; exact_mod_cast hp) (by omega) (by show (v : Int) < 2 ^ 16; omega)).2.2.2.2
  rw [h] at t
  have e := (beq_iff_eq.1 t.symm)
  have e2 : bits.pw (k : Int).toNat = ((2 ^ k : Nat) : Int) := by unfold bits.pw; rw [Int.toNat_natCast]; simp
  rw [e2, ← Int.natCast_emod] at e
  rw [e]
  omega
theorem told32 {v r k p : Nat} (hk : k ≤ 32) (hp : p < 2 ^ k) (hv : v < 4294967296) (h : bits.fitR 32 v r k p = true) : (bits.lowR 32 k r p ((v % 2 ^ k : Nat) : Int)).toNat = v := by
  have t := (bits.tells_facts 32 r k p v (by omega) (by omega) (by omega) (by show (p : Int) < 2 ^ (k : Int).toNat; rw [Int.toNat_natCast]; exact_mod_cast hp) (by omega) (by show (v : Int) < 2 ^ 32; omega)).2.2.2.2
  rw [h] at t
  have e := (beq_iff_eq.1 t.symm)
  have e2 : bits.pw (k : Int).toNat = ((2 ^ k : Nat) : Int) := by unfold bits.pw; rw [Int.toNat_natCast]; simp
  rw [e2, ← Int.natCast_emod] at e
  rw [e]
  omega

/-- the lowest bits that a frame of a kind says of a state -/
def lowSt (kind : Nat) (n : St) : St := if kind = 1 then ⟨n.seq % 256, 0, n.offset % 256, n.lag % 256, 0⟩ else if kind = 0 then ⟨n.seq % 16, 0, 0, 0, 0⟩ else n
/-- a frame of a packet, taken apart -/
def partsF (kind turn cid : Nat) (n : St) (p : Pk) : Fr :=
  ⟨kind, cid, turn, if kind = 3 then p.src else 0, if kind = 3 then p.dst else 0, if kind = 3 then p.port else 0, lowSt kind n, chk (widthN kind) p, p.body⟩

theorem byteN_cons (b : UInt8) (l : List UInt8) : byteN (b :: l) 0 = b.toNat := by simp [byteN]
theorem byteN_succ (b : UInt8) (l : List UInt8) (i : Nat) : byteN (b :: l) (i + 1) = byteN l i := by simp [byteN]
theorem byteN_right (a b : List UInt8) (i : Nat) (h : a.length ≤ i) : byteN (a ++ b) i = byteN b (i - a.length) := by
  unfold byteN; rw [List.getElem?_append_right h]
theorem ofNat_toNat {n : Nat} (h : n < 256) : (UInt8.ofNat n).toNat = n := by rw [UInt8.toNat_ofNat']; omega
theorem byteN_be (n : Nat) (h : n < 256) (l : List UInt8) : byteN (be n 1 ++ l) 0 = n := by
  rw [wbe1 n h, List.singleton_append, byteN_cons, ofNat_toNat h]

theorem stateN_bodyless (p : Pk) (s : Nat) : stateN (bodyless p) s = stateN p s := rfl
theorem rest_parts (p : Pk) (l : List UInt8) : restL p ++ l = be p.seq 2 ++ (be p.time 4 ++ (be p.id 2 ++ (be p.flags 1 ++ l))) := by simp [restL]
theorem fields_rest (p : Pk) (hp : p.ok) (l : List UInt8) : fieldsP (restL p ++ l) (byteN (restL p ++ l) 8) = { bodyless p with src := 0, dst := 0, port := 0 } := by
  rw [rest_parts]
  have b1 : (be p.seq 2 ++ (be p.time 4 ++ (be p.id 2 ++ (be p.flags 1 ++ l)))).take 2 = be p.seq 2 := List.take_left' (by simp [be_length])
  have b2 : ((be p.seq 2 ++ (be p.time 4 ++ (be p.id 2 ++ (be p.flags 1 ++ l)))).take 6).drop 2 = be p.time 4 := slice_mid _ _ _ 2 6 (by simp [be_length]) (by simp [be_length])
  have b3 : ((be p.seq 2 ++ (be p.time 4 ++ (be p.id 2 ++ (be p.flags 1 ++ l)))).take 8).drop 6 = be p.id 2 := by
    have := slice_mid (be p.seq 2 ++ be p.time 4) (be p.id 2) (be p.flags 1 ++ l) 6 8 (by simp [be_length]) (by simp [be_length])
    simpa using this
  have b4 : byteN (be p.seq 2 ++ (be p.time 4 ++ (be p.id 2 ++ (be p.flags 1 ++ l)))) 8 = p.flags := by
    rw [byteN_right _ _ _ (by simp [be_length]), byteN_right _ _ _ (by simp [be_length]), byteN_right _ _ _ (by simp [be_length])]
    simp only [be_length]
    exact byteN_be _ hp.flags _
  unfold fieldsP bodyless
  rw [b1, b2, b3, b4, numOf_be _ 2 hp.seq, numOf_be _ 4 hp.time, numOf_be _ 2 hp.id]
theorem seem_hdr (p : Pk) (hp : p.ok) (l : List UInt8) : bodyless (seemP (hdrL p ++ l)) = bodyless p := by
  have g1 : (hdrL p ++ l).take 10 = be p.src 4 ++ (be p.dst 4 ++ be p.port 2) := by
    rw [show hdrL p ++ l = (be p.src 4 ++ (be p.dst 4 ++ be p.port 2)) ++ (restL p ++ l) by simp [hdrL, headL]]
    exact List.take_left' (by simp [be_length])
  have g2 : ((hdrL p ++ l).take 19).drop 10 = be p.seq 2 ++ (be p.time 4 ++ (be p.id 2 ++ be p.flags 1)) := by
    have := slice_mid (be p.src 4 ++ (be p.dst 4 ++ be p.port 2)) (be p.seq 2 ++ (be p.time 4 ++ (be p.id 2 ++ be p.flags 1))) l 10 19 (by simp [be_length]) (by simp [be_length])
    simpa [hdrL, headL, restL] using this
  unfold seemP
  rw [g1, g2]
  unfold withP bodyless
  have a1 : ((be p.src 4 ++ (be p.dst 4 ++ be p.port 2)).take 4) = be p.src 4 := List.take_left' (by simp [be_length])
  have a2 : ((be p.src 4 ++ (be p.dst 4 ++ be p.port 2)).take 8).drop 4 = be p.dst 4 := slice_mid _ _ _ 4 8 (by simp [be_length]) (by simp [be_length])
  have a3 : ((be p.src 4 ++ (be p.dst 4 ++ be p.port 2)).take 10).drop 8 = be p.port 2 := by
    have := slice_mid (be p.src 4 ++ be p.dst 4) (be p.port 2) [] 8 10 (by simp [be_length]) (by simp [be_length])
    simpa using this
  have b1 : ((be p.seq 2 ++ (be p.time 4 ++ (be p.id 2 ++ be p.flags 1))).take 2) = be p.seq 2 := List.take_left' (by simp [be_length])
  have b2 : ((be p.seq 2 ++ (be p.time 4 ++ (be p.id 2 ++ be p.flags 1))).take 6).drop 2 = be p.time 4 := slice_mid _ _ _ 2 6 (by simp [be_length]) (by simp [be_length])
  have b3 : ((be p.seq 2 ++ (be p.time 4 ++ (be p.id 2 ++ be p.flags 1))).take 8).drop 6 = be p.id 2 := by
    have := slice_mid (be p.seq 2 ++ be p.time 4) (be p.id 2) (be p.flags 1) 6 8 (by simp [be_length]) (by simp [be_length])
    simpa using this
  have b4 : ((be p.seq 2 ++ (be p.time 4 ++ (be p.id 2 ++ be p.flags 1))).take 9).drop 8 = be p.flags 1 := by
    have := slice_mid (be p.seq 2 ++ (be p.time 4 ++ be p.id 2)) (be p.flags 1) [] 8 9 (by simp [be_length]) (by simp [be_length])
    simpa using this
  simp only [a1, a2, a3, b1, b2, b3, b4, numOf_be _ 4 hp.src, numOf_be _ 4 hp.dst, numOf_be _ 2 hp.port, numOf_be _ 2 hp.seq, numOf_be _ 4 hp.time, numOf_be _ 2 hp.id, numOf_be _ 1 hp.flags]

/-- behind the header: the stride, the check, the body -/
theorem end_parts (f : Fr) (q : Pk) (s c : Nat) (body : List UInt8) (hs : s < 65536) (hc : c < 256) :
    endO f q (be s 2 ++ (be c 1 ++ body)) = some { f with told := stateN q s, chk := c, body := body } := by
  have h1 : (be s 2 ++ (be c 1 ++ body)).take 2 = be s 2 := List.take_left' (by simp [be_length])
  have h2 : byteN (be s 2 ++ (be c 1 ++ body)) 2 = c := by
    rw [byteN_right _ _ _ (by simp [be_length])]
    simp only [be_length]
    exact byteN_be _ hc _
  have h3 : (be s 2 ++ (be c 1 ++ body)).drop 3 = body := by
    rw [← List.append_assoc]
    exact List.drop_left' (by simp [be_length])
  unfold endO endF
  rw [if_neg (by simp [be_length]; omega), h1, h2, h3, numOf_be _ 2 hs]

theorem first_byte {k t c : Nat} (hk : k ≤ 3) (ht : t < 4) (hc : c < 8) : (64 * k + 16 * t + 2 * c) / 64 = k ∧ (64 * k + 16 * t + 2 * c) / 2 % 8 = c ∧ (64 * k + 16 * t + 2 * c) / 16 % 4 = t ∧ (64 * k + 16 * t + 2 * c) % 2 = 0 ∧ 64 * k + 16 * t + 2 * c < 256 := by omega

theorem inner_told {k t c : Nat} {n : St} {p : Pk} {s : Nat} (hk : k ≤ 3) (hp : p.ok) (hs : s < 65536) (hn : n = stateN p s) :
    innerO ⟨k, c, t, 0, 0, 0, St.zero, 0, []⟩ (toldN k n p ++ p.body) = some (partsF k t c n p) := by
  have c3 := chk_lt3 p
  have c7 := chk_lt7 p
  have c8 := chk_lt8 p
  have hns : n.stride = s := by rw [hn]; rfl
  obtain rfl | rfl | rfl | rfl : k = 0 ∨ k = 1 ∨ k = 2 ∨ k = 3 := by omega
  · have hB : 16 * (n.seq % 16) + 2 * chk 3 p < 256 := by omega
    have e0 := byteN_be _ hB p.body
    have ed : (be (16 * (n.seq % 16) + 2 * chk 3 p) 1 ++ p.body).drop 1 = p.body := List.drop_left' (by simp [be_length])
    simp only [innerO, toldN, tinyO, reduceIte, Nat.reduceEqDiff, e0, ed]
    rw [if_neg (by simp [be_length]; omega)]
    simp only [partsF, lowSt, widthN, reduceIte, Nat.reduceEqDiff, St.zero]
    rw [show (16 * (n.seq % 16) + 2 * chk 3 p) / 16 = n.seq % 16 by omega, show (16 * (n.seq % 16) + 2 * chk 3 p) / 2 % 8 = chk 3 p by omega]
  · have e : be (n.seq % 256) 1 ++ be (n.offset % 256) 1 ++ be (n.lag % 256) 1 ++ be (chk 7 p) 1 ++ p.body = UInt8.ofNat (n.seq % 256) :: UInt8.ofNat (n.offset % 256) :: UInt8.ofNat (n.lag % 256) :: UInt8.ofNat (chk 7 p) :: p.body := by
      rw [wbe1 _ (by omega), wbe1 _ (by omega), wbe1 _ (by omega), wbe1 _ (by omega)]; simp
    simp only [innerO, toldN, shortO, reduceIte, Nat.reduceEqDiff, e, byteN_cons, byteN_succ, List.drop_succ_cons, List.drop_zero, List.length_cons]
    rw [ofNat_toNat (show n.seq % 256 < 256 by omega), ofNat_toNat (show n.offset % 256 < 256 by omega), ofNat_toNat (show n.lag % 256 < 256 by omega), ofNat_toNat (show chk 7 p < 256 by omega)]
    rw [if_neg (by omega)]
    simp only [partsF, lowSt, widthN, reduceIte, Nat.reduceEqDiff, St.zero]
  · have e : restL p ++ be n.stride 2 ++ be (chk 8 p) 1 ++ p.body = restL p ++ (be n.stride 2 ++ (be (chk 8 p) 1 ++ p.body)) := by simp
    have ed : (restL p ++ (be n.stride 2 ++ (be (chk 8 p) 1 ++ p.body))).drop 9 = be n.stride 2 ++ (be (chk 8 p) 1 ++ p.body) := List.drop_left' (restL_length p)
    simp only [innerO, toldN, fullO, reduceIte, Nat.reduceEqDiff, e, ed]
    rw [if_neg (by simp only [List.length_append, restL_length, be_length]; omega), fields_rest p hp, end_parts _ _ _ _ _ (by omega) (by omega)]
    simp only [partsF, lowSt, widthN, reduceIte, Nat.reduceEqDiff]
    rw [hns, hn]
    rfl
  · have e : hdrL p ++ be n.stride 2 ++ be (chk 8 p) 1 ++ p.body = hdrL p ++ (be n.stride 2 ++ (be (chk 8 p) 1 ++ p.body)) := by simp
    have ed : (hdrL p ++ (be n.stride 2 ++ (be (chk 8 p) 1 ++ p.body))).drop 19 = be n.stride 2 ++ (be (chk 8 p) 1 ++ p.body) := List.drop_left' (hdrL_length p)
    have es := seem_hdr p hp (be n.stride 2 ++ (be (chk 8 p) 1 ++ p.body))
    have e1 : (seemP (hdrL p ++ (be n.stride 2 ++ (be (chk 8 p) 1 ++ p.body)))).src = p.src := by
      have := congrArg Pk.src es
      simpa only [bodyless] using this
    have e2 : (seemP (hdrL p ++ (be n.stride 2 ++ (be (chk 8 p) 1 ++ p.body)))).dst = p.dst := by
      have := congrArg Pk.dst es
      simpa only [bodyless] using this
    have e3 : (seemP (hdrL p ++ (be n.stride 2 ++ (be (chk 8 p) 1 ++ p.body)))).port = p.port := by
      have := congrArg Pk.port es
      simpa only [bodyless] using this
    simp only [innerO, toldN, wholeO, reduceIte, Nat.reduceEqDiff, e, ed, es, e1, e2, e3]
    rw [if_neg (by simp only [List.length_append, hdrL_length, be_length]; omega), end_parts _ _ _ _ _ (by omega) (by omega)]
    simp only [partsF, lowSt, widthN, reduceIte, Nat.reduceEqDiff]
    rw [hns, hn]
    rfl

theorem read_frame {k t c : Nat} {n : St} {p : Pk} {s : Nat} (hk : k ≤ 3) (ht : t < 4) (hc : c < 8) (hp : p.ok) (hs : s < 65536) (hn : n = stateN p s) (hb : p.body.length ≤ 100) :
    readF (frameN k t c n p) = some (partsF k t c n p) := by
  obtain ⟨f1, f2, f3, f4, f5⟩ := first_byte hk ht hc
  have e : frameN k t c n p = be (64 * k + 16 * t + 2 * c) 1 ++ (toldN k n p ++ p.body) := by simp [frameN]
  have e0 : byteN (frameN k t c n p) 0 = 64 * k + 16 * t + 2 * c := by rw [e]; exact byteN_be _ f5 _
  have ed : (frameN k t c n p).drop 1 = toldN k n p ++ p.body := by rw [e]; exact List.drop_left' (by simp [be_length])
  have el : (frameN k t c n p).length ≠ 0 := by rw [e]; simp only [List.length_append, be_length]; omega
  unfold readF
  rw [if_neg (by rw [e0]; omega), e0, ed]
  simp only [bareF, f1, f2, f3]
  rw [inner_told hk hp hs hn]
  simp only [cutO]
  rw [if_neg (by simp only [partsF]; omega)]

theorem made_back {n : St} {p : Pk} {s : Nat} (hp : p.ok) (hs : s < 65536) (hn : n = stateN p s) : packetN n p.src p.dst p.port p.body = p := by
  have h1 := timeN_stateN hp hs
  have h2 := hp.seq
  have h3 := hp.id
  rw [hn]
  unfold packetN
  rw [h1]
  simp only [stateN]
  have e : ((p.id + 65536 - p.seq) % 65536 + p.seq) % 65536 = p.id := by omega
  rw [e]

/-- a context that a frame of a kind can be told by -/
def Knows (c : Rx) (k turn : Nat) (n : St) (p : Pk) : Prop :=
  k = 3 ∨ (c.begun = true ∧ c.turn = turn ∧ c.src = p.src ∧ c.dst = p.dst ∧ c.port = p.port ∧ needsN n c.st ≤ k)
def Rx.of (p : Pk) (turn : Nat) (n : St) : Rx := ⟨true, p.src, p.dst, p.port, turn, n, 0⟩

theorem needs_tiny {n r : St} (h : needsN n r ≤ 0) : n.stride = r.stride ∧ n.flags = r.flags ∧ n.offset = r.offset ∧ n.lag = r.lag ∧ bits.fitR 16 n.seq r.seq 4 1 = true := by
  unfold needsN at h
  split at h
  · rename_i h1
    split at h
    · rename_i h2
      exact ⟨h1.1, h1.2, h2⟩
    · split at h <;> omega
  · omega
theorem needs_short {n r : St} (hn : n.ok) (h : needsN n r ≤ 1) : n.stride = r.stride ∧ n.flags = r.flags ∧ bits.fitR 16 n.seq r.seq 8 1 = true ∧ bits.fitR 16 n.offset r.offset 8 128 = true ∧ bits.fitR 32 n.lag r.lag 8 128 = true := by
  unfold needsN at h
  split at h
  · rename_i h1
    split at h
    · rename_i h2
      obtain ⟨e1, e2, e3⟩ := h2
      have hc4 : bits.cnt 4 16 = 16 := by decide
      have hc8 : bits.cnt 8 16 = 256 := by decide
      have hc8' : bits.cnt 8 32 = 256 := by decide
      have ho := hn.offset
      have hl := hn.lag
      refine ⟨h1.1, h1.2, ?_, ?_, ?_⟩
      · unfold bits.fitR at e3 ⊢
        rw [hc4] at e3
        rw [hc8]
        have e3 := of_decide_eq_true e3
        exact decide_eq_true ⟨by omega, by omega⟩
      · rw [← e1]
        unfold bits.fitR
        rw [hc8]
        refine decide_eq_true ⟨by omega, ?_⟩
        rw [show ((n.offset : Int) - ((n.offset : Int) - 128)) = 128 by omega]
        decide
      · rw [← e2]
        unfold bits.fitR
        rw [hc8']
        refine decide_eq_true ⟨by omega, ?_⟩
        rw [show ((n.lag : Int) - ((n.lag : Int) - 128)) = 128 by omega]
        decide
    · split at h
      · rename_i h2
        exact ⟨h1.1, h1.2, h2⟩
      · omega
  · omega

theorem follow_good {c : Rx} {k t cid : Nat} {n : St} {p : Pk} {s : Nat} (hk : k ≤ 3) (hp : p.ok) (hs : s < 65536) (hn : n = stateN p s) (h : Knows c k t n p) : followN c (partsF k t cid n p) = Rx.of p t n := by
  have no : n.ok := by rw [hn]; exact stateN_ok hp hs
  rcases h with rfl | ⟨h1, h2, h3, h4, h5, h6⟩
  · simp [followN, partsF, Rx.of, lowSt]
  · obtain rfl | rfl | rfl | rfl : k = 0 ∨ k = 1 ∨ k = 2 ∨ k = 3 := by omega
    · obtain ⟨a1, a2, a3, a4, a5⟩ := needs_tiny h6
      have e := told16 (k := 4) (p := 1) (by decide) (by decide) no.seq a5
      simp only [followN, partsF, Rx.of, lowSt, reduceIte, Nat.reduceEqDiff, afterTinyN, seqAfterN, h3, h4, h5, ← a1, ← a2, ← a3, ← a4]
      have e' : (bits.lowR 16 ((4 : Nat) : Int) (c.st.seq : Int) 1 ((n.seq % 16 : Nat) : Int)).toNat = n.seq := e
      rw [e']
    · obtain ⟨a1, a2, a3, a4, a5⟩ := needs_short no h6
      have e3 := told16 (k := 8) (p := 1) (by decide) (by decide) no.seq a3
      have e4 := told16 (k := 8) (p := 128) (by decide) (by decide) no.offset a4
      have e5 := told32 (k := 8) (p := 128) (by decide) (by decide) no.lag a5
      have e3' : (bits.lowR 16 ((8 : Nat) : Int) (c.st.seq : Int) 1 ((n.seq % 256 : Nat) : Int)).toNat = n.seq := e3
      have e4' : (bits.lowR 16 8 (c.st.offset : Int) 128 ((n.offset % 256 : Nat) : Int)).toNat = n.offset := e4
      have e5' : (bits.lowR 32 8 (c.st.lag : Int) 128 ((n.lag % 256 : Nat) : Int)).toNat = n.lag := e5
      simp only [followN, partsF, Rx.of, lowSt, reduceIte, Nat.reduceEqDiff, afterShortN, seqAfterN, h3, h4, h5, ← a1, ← a2]
      rw [e3', e4', e5']
    · simp [followN, partsF, Rx.of, lowSt, h3, h4, h5]
    · simp [followN, partsF, Rx.of, lowSt]

/-- a frame that a context can be told by gives its packet, and its state is the context's -/
theorem take_good {m : Rcv} {k t cid : Nat} {n : St} {p : Pk} {s : Nat} (hk : k ≤ 3) (ht : t < 4) (hcm : cid < m.cids) (hc8 : cid < 8) (hp : p.ok) (hs : s < 65536) (hn : n = stateN p s) (hb : p.body.length ≤ 100) (h : Knows (m.at_ cid) k t n p) :
    takeE m (frameN k t cid n p) = 0 ∧ takeP m (frameN k t cid n p) = p ∧ takeB m (frameN k t cid n p) = [] ∧ takeM m (frameN k t cid n p) = m.set cid (Rx.of p t n) := by
  have hr := read_frame hk ht hc8 hp hs hn hb
  have hf := follow_good (cid := cid) hk hp hs hn h
  have hmk : madeN (m.at_ cid) (partsF k t cid n p) = p := by
    unfold madeN
    rw [hf]
    exact made_back hp hs hn
  have hE : takeE m (frameN k t cid n p) = 0 := by
    unfold takeE
    rw [hr]
    simp only
    have ec : (partsF k t cid n p).cid = cid := rfl
    rw [ec, if_neg (by omega), hmk]
    unfold refusalN
    rcases h with rfl | ⟨h1, h2, _⟩
    · simp [partsF]
    · simp [partsF, h1, h2]
  refine ⟨hE, ?_, ?_, ?_⟩
  · unfold takeP
    rw [hr]
    simp only
    rw [if_pos hE]
    exact hmk
  · unfold takeB
    rw [hr]
    simp only
    rw [if_pos (Or.inl hE)]
  · unfold takeM
    rw [hr]
    simp only
    rw [if_neg (by omega), if_pos hE]
    rw [show (partsF k t cid n p).cid = cid from rfl, hf]

/-- any frame of a packet, at any context: it is refused, or what it gives has the packet's body and a header with its check -/
theorem take_some {m : Rcv} {k t cid : Nat} {n : St} {p : Pk} {s : Nat} (hk : k ≤ 3) (ht : t < 4) (hcm : cid < m.cids) (hc8 : cid < 8) (hp : p.ok) (hs : s < 65536) (hn : n = stateN p s) (hb : p.body.length ≤ 100) :
    (takeE m (frameN k t cid n p) = 0 ∧ (takeP m (frameN k t cid n p)).body = p.body ∧ chk (widthN k) (takeP m (frameN k t cid n p)) = chk (widthN k) p) ∨
    ((takeE m (frameN k t cid n p) = 8 ∨ takeE m (frameN k t cid n p) = 9 ∨ takeE m (frameN k t cid n p) = 10) ∧ takeP m (frameN k t cid n p) = zeroP ∧ k ≠ 3) := by
  have hr := read_frame hk ht hc8 hp hs hn hb
  by_cases hk3 : k = 3
  · obtain ⟨e1, e2, _, _⟩ := take_good (m := m) hk ht hcm hc8 hp hs hn hb (Or.inl hk3)
    exact Or.inl ⟨e1, by rw [e2], by rw [e2]⟩
  · have hE : takeE m (frameN k t cid n p) = refusalN (m.at_ cid) (partsF k t cid n p) (madeN (m.at_ cid) (partsF k t cid n p)) := by
      unfold takeE
      rw [hr]
      simp only
      have ec : (partsF k t cid n p).cid = cid := rfl
      rw [ec, if_neg (by omega)]
    by_cases h0 : takeE m (frameN k t cid n p) = 0
    · left
      have hP : takeP m (frameN k t cid n p) = madeN (m.at_ cid) (partsF k t cid n p) := by
        unfold takeP
        rw [hr]
        simp only
        rw [if_pos h0]
        rfl
      refine ⟨h0, ?_, ?_⟩
      · rw [hP]; rfl
      · rw [hE] at h0
        unfold refusalN at h0
        split at h0
        · omega
        · split at h0
          · omega
          · split at h0
            · rename_i e
              rw [hP]
              exact e.symm
            · omega
    · right
      refine ⟨?_, ?_, hk3⟩
      · rw [hE] at h0 ⊢
        unfold refusalN at h0 ⊢
        split at h0
        · rename_i e; rw [if_pos e]; exact Or.inl rfl
        · rename_i e; rw [if_neg e]
          split at h0
          · rename_i e2; rw [if_pos e2]; exact Or.inr (Or.inl rfl)
          · rename_i e2; rw [if_neg e2]
            split at h0
            · omega
            · rename_i e3; rw [if_neg e3]; exact Or.inr (Or.inr rfl)
      · unfold takeP
        rw [hr]
        simp only
        rw [if_neg h0]

end Go.Proofs.YtgpojbgjfibblaaGreat.texts

namespace Go.Proofs.YtgpojbgjfibblaaGreat.texts
open Go.RowKit
set_option linter.unusedVariables false

def aheadN (k : Nat) : Nat := if k = 0 then 2 else if k = 1 then 5 else if k = 2 then 13 else 23
theorem byteN_drop (l : List UInt8) (n i : Nat) : byteN (l.drop n) i = byteN l (n + i) := by simp [byteN, List.getElem?_drop]
theorem byteN_13 (l : List UInt8) : byteN (l.drop 1) 3 = byteN l 4 := byteN_drop l 1 3
theorem byteN_10 (l : List UInt8) : byteN (l.drop 1) 0 = byteN l 1 := byteN_drop l 1 0
/-- a text of the form of a frame, taken apart -/
def shapeF (l : List UInt8) : Fr :=
  if byteN l 0 / 64 = 3 then endF { bareF (byteN l 0) with src := (seemP (l.drop 1)).src, dst := (seemP (l.drop 1)).dst, port := (seemP (l.drop 1)).port } (bodyless (seemP (l.drop 1))) ((l.drop 1).drop 19)
  else if byteN l 0 / 64 = 2 then endF (bareF (byteN l 0)) (fieldsP (l.drop 1) (byteN (l.drop 1) 8)) ((l.drop 1).drop 9)
  else if byteN l 0 / 64 = 1 then { bareF (byteN l 0) with told := ⟨byteN (l.drop 1) 0, 0, byteN (l.drop 1) 1, byteN (l.drop 1) 2, 0⟩, chk := byteN (l.drop 1) 3, body := (l.drop 1).drop 4 }
  else { bareF (byteN l 0) with told := ⟨byteN (l.drop 1) 0 / 16, 0, 0, 0, 0⟩, chk := byteN (l.drop 1) 0 / 2 % 8, body := (l.drop 1).drop 1 }
structure Shape (l : List UInt8) : Prop where
  some_ : l.length ≠ 0
  even : byteN l 0 % 2 = 0
  least : aheadN (byteN l 0 / 64) ≤ l.length
  most : l.length ≤ aheadN (byteN l 0 / 64) + 100
  tiny : byteN l 0 / 64 = 0 → byteN l 1 % 2 = 0
  short : byteN l 0 / 64 = 1 → byteN l 4 < 128
theorem shapeF_parts (l : List UInt8) : (shapeF l).kind = byteN l 0 / 64 ∧ (shapeF l).cid = byteN l 0 / 2 % 8 ∧ (shapeF l).turn = byteN l 0 / 16 % 4 ∧ (shapeF l).body = l.drop (aheadN (byteN l 0 / 64)) := by
  have hb := byteN_lt l 0
  unfold shapeF aheadN
  by_cases h3 : byteN l 0 / 64 = 3
  · rw [if_pos h3, if_neg (by omega), if_neg (by omega), if_neg (by omega)]
    exact ⟨rfl, rfl, rfl, by simp [endF, List.drop_drop]⟩
  · rw [if_neg h3]
    by_cases h2 : byteN l 0 / 64 = 2
    · rw [if_pos h2, if_neg (by omega), if_neg (by omega), if_pos h2]
      exact ⟨rfl, rfl, rfl, by simp [endF, List.drop_drop]⟩
    · rw [if_neg h2]
      by_cases h1 : byteN l 0 / 64 = 1
      · rw [if_pos h1, if_neg (by omega), if_pos h1]
        exact ⟨rfl, rfl, rfl, by simp⟩
      · rw [if_neg h1, if_pos (by omega)]
        exact ⟨rfl, rfl, rfl, by simp⟩
theorem readF_shape {l : List UInt8} (h : Shape l) : readF l = some (shapeF l) := by
  have hb := byteN_lt l 0
  obtain ⟨p1, p2, p3, p4⟩ := shapeF_parts l
  have h0 := h.some_
  have he := h.even
  have hl := h.least
  have hm := h.most
  have key : innerO (bareF (byteN l 0)) (l.drop 1) = some (shapeF l) := by
    have kd : (bareF (byteN l 0)).kind = byteN l 0 / 64 := rfl
    have ld : (l.drop 1).length = l.length - 1 := List.length_drop
    unfold innerO shapeF
    rw [kd]
    unfold aheadN at hl
    by_cases h3 : byteN l 0 / 64 = 3
    · rw [if_pos h3, if_pos h3]
      rw [if_neg (by omega), if_neg (by omega), if_neg (by omega)] at hl
      unfold wholeO endO
      rw [if_neg (by omega), if_neg (by rw [List.length_drop]; omega)]
    · rw [if_neg h3, if_neg h3]
      by_cases h2 : byteN l 0 / 64 = 2
      · rw [if_pos h2, if_pos h2]
        rw [if_neg (by omega), if_neg (by omega), if_pos h2] at hl
        unfold fullO endO
        rw [if_neg (by omega), if_neg (by rw [List.length_drop]; omega)]
      · rw [if_neg h2, if_neg h2]
        by_cases h1 : byteN l 0 / 64 = 1
        · rw [if_pos h1, if_pos h1]
          rw [if_neg (by omega), if_pos h1] at hl
          unfold shortO
          have := h.short h1
          rw [if_neg (by rw [byteN_13]; omega)]
          rfl
        · rw [if_neg h1, if_neg h1]
          have h00 : byteN l 0 / 64 = 0 := by omega
          rw [if_pos h00] at hl
          unfold tinyO
          have := h.tiny h00
          rw [if_neg (by rw [byteN_10]; omega)]
          rfl
  unfold readF
  rw [if_neg (by omega), key]
  unfold cutO
  simp only
  rw [if_neg (by rw [p4, List.length_drop]; omega)]
theorem readF_not {l : List UInt8} (h : ¬ Shape l) : readF l = none := by
  have hb := byteN_lt l 0
  unfold readF
  by_cases h0 : l.length = 0 ∨ byteN l 0 % 2 = 1
  · rw [if_pos h0]
  · rw [if_neg h0]
    have kd : (bareF (byteN l 0)).kind = byteN l 0 / 64 := rfl
    have ld : (l.drop 1).length = l.length - 1 := List.length_drop
    unfold innerO
    rw [kd]
    by_cases h3 : byteN l 0 / 64 = 3
    · rw [if_pos h3]
      unfold wholeO endO
      by_cases a : (l.drop 1).length < 19
      · rw [if_pos a]; rfl
      · rw [if_neg a]
        by_cases b : ((l.drop 1).drop 19).length < 3
        · rw [if_pos b]; rfl
        · rw [if_neg b]
          unfold cutO
          simp only
          rw [List.length_drop] at b
          rw [if_pos]
          by_cases c : 100 < (endF { bareF (byteN l 0) with src := (seemP (l.drop 1)).src, dst := (seemP (l.drop 1)).dst, port := (seemP (l.drop 1)).port } (bodyless (seemP (l.drop 1))) ((l.drop 1).drop 19)).body.length
          · exact c
          · exfalso
            simp only [endF, List.length_drop] at c
            exact h ⟨by omega, by omega, by unfold aheadN; rw [if_neg (by omega), if_neg (by omega), if_neg (by omega)]; omega, by unfold aheadN; rw [if_neg (by omega), if_neg (by omega), if_neg (by omega)]; omega, fun e => by omega, fun e => by omega⟩
    · rw [if_neg h3]
      by_cases h2 : byteN l 0 / 64 = 2
      · rw [if_pos h2]
        unfold fullO endO
        by_cases a : (l.drop 1).length < 9
        · rw [if_pos a]; rfl
        · rw [if_neg a]
          by_cases b : ((l.drop 1).drop 9).length < 3
          · rw [if_pos b]; rfl
          · rw [if_neg b]
            unfold cutO
            simp only
            rw [List.length_drop] at b
            rw [if_pos]
            by_cases c : 100 < (endF (bareF (byteN l 0)) (fieldsP (l.drop 1) (byteN (l.drop 1) 8)) ((l.drop 1).drop 9)).body.length
            · exact c
            · exfalso
              simp only [endF, List.length_drop] at c
              exact h ⟨by omega, by omega, by unfold aheadN; rw [if_neg (by omega), if_neg (by omega), if_pos h2]; omega, by unfold aheadN; rw [if_neg (by omega), if_neg (by omega), if_pos h2]; omega, fun e => by omega, fun e => by omega⟩
      · rw [if_neg h2]
        by_cases h1 : byteN l 0 / 64 = 1
        · rw [if_pos h1]
          unfold shortO
          by_cases a : (l.drop 1).length < 4 ∨ 128 ≤ byteN (l.drop 1) 3
          · rw [if_pos a]; rfl
          · rw [if_neg a]
            unfold cutO
            simp only
            rw [byteN_13] at a
            rw [if_pos]
            by_cases c : 100 < ((l.drop 1).drop 4).length
            · exact c
            · exfalso
              simp only [List.length_drop] at c
              exact h ⟨by omega, by omega, by unfold aheadN; rw [if_neg (by omega), if_pos h1]; omega, by unfold aheadN; rw [if_neg (by omega), if_pos h1]; omega, fun e => by omega, fun e => by omega⟩
        · rw [if_neg h1]
          have h00 : byteN l 0 / 64 = 0 := by omega
          unfold tinyO
          by_cases a : (l.drop 1).length = 0 ∨ byteN (l.drop 1) 0 % 2 = 1
          · rw [if_pos a]; rfl
          · rw [if_neg a]
            unfold cutO
            simp only
            rw [byteN_10] at a
            rw [if_pos]
            by_cases c : 100 < ((l.drop 1).drop 1).length
            · exact c
            · exfalso
              simp only [List.length_drop] at c
              exact h ⟨by omega, by omega, by unfold aheadN; rw [if_pos h00]; omega, by unfold aheadN; rw [if_pos h00]; omega, fun e => by omega, fun e => by omega⟩

theorem with_body (a b c : Nat) (l x y : List UInt8) (s : Nat) : stateN (withP a b c l x) s = stateN (withP 0 0 0 l y) s := rfl
theorem withP_ok {a b c : Nat} {l body : List UInt8} (ha : a < 4294967296) (hb : b < 4294967296) (hc : c < 65536) : (withP a b c l body).ok :=
  ⟨ha, hb, hc, numOf_lt' 2 (by simp; omega), numOf_lt' 4 (by simp; omega), numOf_lt' 2 (by simp; omega), numOf_lt' 1 (by simp; omega)⟩
/-- what a WHOLE frame tells -/
theorem made_whole {c : Rx} {l : List UInt8} (h : Shape l) (hk : byteN l 0 / 64 = 3) :
    madeN c (shapeF l) = withP (numOf (((l.take 11).drop 1).take 4)) (numOf ((((l.take 11).drop 1).take 8).drop 4)) (numOf ((((l.take 11).drop 1).take 10).drop 8)) ((l.drop 11).take 9) (l.drop 23)
    ∧ (followN c (shapeF l)).st = stateN (madeN c (shapeF l)) (numOf (((l.drop 11).take 11).drop 9)) ∧ (shapeF l).chk = byteN l 22 := by
  have e : shapeF l = endF { bareF (byteN l 0) with src := (seemP (l.drop 1)).src, dst := (seemP (l.drop 1)).dst, port := (seemP (l.drop 1)).port } (bodyless (seemP (l.drop 1))) ((l.drop 1).drop 19) := by unfold shapeF; rw [if_pos hk]
  have kd : (shapeF l).kind = 3 := (shapeF_parts l).1.trans hk
  have t1 : (l.take 11).drop 1 = (l.drop 1).take 10 := by rw [List.drop_take]
  have t2 : ((l.drop 1).take 19).drop 10 = (l.drop 11).take 9 := by rw [List.drop_take, List.drop_drop]
  have t3 : ((l.drop 11).take 11).drop 9 = ((l.drop 1).drop 19).take 2 := by rw [List.drop_take, List.drop_drop, List.drop_drop]
  have fst : (followN c (shapeF l)).st = (shapeF l).told := by unfold followN; simp only [kd]; rfl
  have q : withP (numOf (((l.take 11).drop 1).take 4)) (numOf ((((l.take 11).drop 1).take 8).drop 4)) (numOf ((((l.take 11).drop 1).take 10).drop 8)) ((l.drop 11).take 9) (l.drop 23) = { seemP (l.drop 1) with body := l.drop 23 } := by
    unfold seemP
    rw [t1, t2]
    rfl
  have ok : ({ seemP (l.drop 1) with body := l.drop 23 } : Pk).ok := by
    have o := seem_ok (l.drop 1)
    exact ⟨o.src, o.dst, o.port, o.seq, o.time, o.id, o.flags⟩
  have hs : numOf (((l.drop 1).drop 19).take 2) < 65536 := numOf_lt' 2 (by simp; omega)
  have tl : (shapeF l).told = stateN { seemP (l.drop 1) with body := l.drop 23 } (numOf (((l.drop 1).drop 19).take 2)) := by rw [e]; rfl
  have mb := made_back (n := (shapeF l).told) ok hs tl
  have m : madeN c (shapeF l) = { seemP (l.drop 1) with body := l.drop 23 } := by
    unfold madeN
    rw [fst]
    have a1 : (followN c (shapeF l)).src = (seemP (l.drop 1)).src := by unfold followN; simp only [kd, if_true]; rw [e]; rfl
    have a2 : (followN c (shapeF l)).dst = (seemP (l.drop 1)).dst := by unfold followN; simp only [kd, if_true]; rw [e]; rfl
    have a3 : (followN c (shapeF l)).port = (seemP (l.drop 1)).port := by unfold followN; simp only [kd, if_true]; rw [e]; rfl
    have a4 : (shapeF l).body = l.drop 23 := by rw [(shapeF_parts l).2.2.2, hk]; rfl
    rw [a1, a2, a3, a4]
    exact mb
  refine ⟨by rw [m, q], by rw [fst, m, t3]; exact tl, ?_⟩
  rw [e]
  show byteN ((l.drop 1).drop 19) 2 = _
  rw [byteN_drop, byteN_drop]
/-- what a FULL frame tells -/
theorem made_full {c : Rx} (hc : c.ok) {l : List UInt8} (h : Shape l) (hk : byteN l 0 / 64 = 2) :
    madeN c (shapeF l) = withP c.src c.dst c.port ((l.drop 1).take 9) (l.drop 13) ∧ (followN c (shapeF l)).st = stateN (madeN c (shapeF l)) (numOf (((l.drop 1).take 11).drop 9)) ∧ (shapeF l).chk = byteN l 12 := by
  have e : shapeF l = endF (bareF (byteN l 0)) (fieldsP (l.drop 1) (byteN (l.drop 1) 8)) ((l.drop 1).drop 9) := by unfold shapeF; rw [if_neg (by omega), if_pos hk]
  have kd : (shapeF l).kind = 2 := (shapeF_parts l).1.trans hk
  have hl := h.least
  unfold aheadN at hl
  rw [if_neg (by omega), if_neg (by omega), if_pos hk] at hl
  have t3 : ((l.drop 1).take 11).drop 9 = ((l.drop 1).drop 9).take 2 := by rw [List.drop_take]
  have fst : (followN c (shapeF l)).st = (shapeF l).told := by unfold followN; simp only [kd]; rfl
  have fb : byteN (l.drop 1) 8 = numOf ((((l.drop 1).take 9).take 9).drop 8) := by
    have hlen : 9 ≤ (l.drop 1).length := by rw [List.length_drop]; omega
    generalize l.drop 1 = t at hlen
    have : ((t.take 9).take 9).drop 8 = [t[8]'(by omega)] := by
      rw [List.take_take, Nat.min_self, List.drop_take, List.drop_eq_getElem_cons (show 8 < t.length by omega)]
      rfl
    rw [this]
    simp [numOf, byteN, List.getElem?_eq_getElem (show 8 < t.length by omega)]
  have q : ({ fieldsP (l.drop 1) (byteN (l.drop 1) 8) with src := c.src, dst := c.dst, port := c.port, body := l.drop 13 } : Pk) = withP c.src c.dst c.port ((l.drop 1).take 9) (l.drop 13) := by
    unfold fieldsP withP
    rw [fb]
    simp only [List.take_take]
    rfl
  have ok : (withP c.src c.dst c.port ((l.drop 1).take 9) (l.drop 13)).ok := withP_ok hc.src hc.dst hc.port
  have hs : numOf (((l.drop 1).drop 9).take 2) < 65536 := numOf_lt' 2 (by simp; omega)
  have tl : (shapeF l).told = stateN (withP c.src c.dst c.port ((l.drop 1).take 9) (l.drop 13)) (numOf (((l.drop 1).drop 9).take 2)) := by rw [← q, e]; rfl
  have mb := made_back (n := (shapeF l).told) ok hs tl
  have m : madeN c (shapeF l) = withP c.src c.dst c.port ((l.drop 1).take 9) (l.drop 13) := by
    unfold madeN
    rw [fst]
    have a1 : (followN c (shapeF l)).src = c.src := by unfold followN; simp only [kd]; rfl
    have a2 : (followN c (shapeF l)).dst = c.dst := by unfold followN; simp only [kd]; rfl
    have a3 : (followN c (shapeF l)).port = c.port := by unfold followN; simp only [kd]; rfl
    have a4 : (shapeF l).body = l.drop 13 := by rw [(shapeF_parts l).2.2.2, hk]; rfl
    rw [a1, a2, a3, a4]
    exact mb
  refine ⟨m, by rw [fst, m, t3]; exact tl, ?_⟩
  rw [e]
  show byteN ((l.drop 1).drop 9) 2 = _
  rw [byteN_drop, byteN_drop]
/-- what a SHORT and a TINY frame tell -/
theorem made_short {c : Rx} {l : List UInt8} (h : Shape l) (hk : byteN l 0 / 64 = 1) :
    (followN c (shapeF l)).st = ⟨seqAfterN c.st.seq 8 (byteN l 1), c.st.stride, (bits.lowR 16 8 c.st.offset 128 (byteN l 2)).toNat, (bits.lowR 32 8 c.st.lag 128 (byteN l 3)).toNat, c.st.flags⟩
    ∧ madeN c (shapeF l) = packetN (followN c (shapeF l)).st c.src c.dst c.port (l.drop 5) ∧ (shapeF l).chk = byteN l 4 := by
  have e : shapeF l = { bareF (byteN l 0) with told := ⟨byteN (l.drop 1) 0, 0, byteN (l.drop 1) 1, byteN (l.drop 1) 2, 0⟩, chk := byteN (l.drop 1) 3, body := (l.drop 1).drop 4 } := by unfold shapeF; rw [if_neg (by omega), if_neg (by omega), if_pos hk]
  have kd : (shapeF l).kind = 1 := (shapeF_parts l).1.trans hk
  refine ⟨?_, ?_, ?_⟩
  · have fst : (followN c (shapeF l)).st = afterShortN c.st (shapeF l).told := by unfold followN; simp only [kd]; rfl
    rw [fst, e]
    unfold afterShortN
    simp only [byteN_drop]
  · unfold madeN
    have a1 : (followN c (shapeF l)).src = c.src := by unfold followN; simp only [kd]; rfl
    have a2 : (followN c (shapeF l)).dst = c.dst := by unfold followN; simp only [kd]; rfl
    have a3 : (followN c (shapeF l)).port = c.port := by unfold followN; simp only [kd]; rfl
    have a4 : (shapeF l).body = l.drop 5 := by rw [(shapeF_parts l).2.2.2, hk]; rfl
    rw [a1, a2, a3, a4]
  · rw [e]
    exact byteN_drop l 1 3
theorem made_tiny {c : Rx} {l : List UInt8} (h : Shape l) (hk : byteN l 0 / 64 = 0) :
    (followN c (shapeF l)).st = ⟨seqAfterN c.st.seq 4 (byteN l 1 / 16), c.st.stride, c.st.offset, c.st.lag, c.st.flags⟩
    ∧ madeN c (shapeF l) = packetN (followN c (shapeF l)).st c.src c.dst c.port (l.drop 2) ∧ (shapeF l).chk = byteN l 1 / 2 % 8 := by
  have e : shapeF l = { bareF (byteN l 0) with told := ⟨byteN (l.drop 1) 0 / 16, 0, 0, 0, 0⟩, chk := byteN (l.drop 1) 0 / 2 % 8, body := (l.drop 1).drop 1 } := by unfold shapeF; rw [if_neg (by omega), if_neg (by omega), if_neg (by omega)]
  have kd : (shapeF l).kind = 0 := (shapeF_parts l).1.trans hk
  refine ⟨?_, ?_, ?_⟩
  · have fst : (followN c (shapeF l)).st = afterTinyN c.st (shapeF l).told := by unfold followN; simp only [kd]; rfl
    rw [fst, e]
    unfold afterTinyN
    simp only [byteN_drop]
  · unfold madeN
    have a1 : (followN c (shapeF l)).src = c.src := by unfold followN; simp only [kd]; rfl
    have a2 : (followN c (shapeF l)).dst = c.dst := by unfold followN; simp only [kd]; rfl
    have a3 : (followN c (shapeF l)).port = c.port := by unfold followN; simp only [kd]; rfl
    have a4 : (shapeF l).body = l.drop 2 := by rw [(shapeF_parts l).2.2.2, hk]; rfl
    rw [a1, a2, a3, a4]
  · rw [e]
    show byteN (l.drop 1) 0 / 2 % 8 = _
    rw [byteN_drop]

end Go.Proofs.YtgpojbgjfibblaaGreat.texts

namespace Go.Proofs.YtgpojbgjfibblaaGreat.texts
open Go.RowKit
set_option linter.unusedVariables false
attribute [local go_sem ↓] Go.wp_at_zero Go.wp_at_succ
attribute [local go_sem] bs_size bs_append List.length_append

set_option maxRecDepth 100000 in
set_option maxHeartbeats 1000000 in
theorem ahead_any (k : Nat) (w : World) (h : k ≤ 3) :
    Calls Tryz.prog 94 #[.int .i64 k] w fun e w' => e = .returned (.int .i64 (aheadN k : Nat)) ∧ w' = w := by
  obtain rfl | rfl | rfl | rfl : k = 0 ∨ k = 1 ∨ k = 2 ∨ k = 3 := by omega
  all_goals
    go_enter Tryz.func94, Tryz.ntmps94
    go_wp2
    go_ret
    exact ⟨rfl, rfl⟩

def shapedB (l : List UInt8) (c : Nat) : Bool := decide (l.length ≠ 0 ∧ byteN l 0 % 2 = 0 ∧ byteN l 0 / 2 % 8 < c ∧ aheadN (byteN l 0 / 64) ≤ l.length ∧ l.length ≤ aheadN (byteN l 0 / 64) + 100 ∧ (byteN l 0 / 64 = 0 → byteN l 1 % 2 = 0) ∧ (byteN l 0 / 64 = 1 → byteN l 4 < 128))
theorem shaped_yes {l : List UInt8} {c : Nat} (h : shapedB l c = true) : Shape l ∧ byteN l 0 / 2 % 8 < c := by
  obtain ⟨h1, h2, h3, h4, h5, h6, h7⟩ := of_decide_eq_true h
  exact ⟨⟨h1, h2, h4, h5, h6, h7⟩, h3⟩
theorem shaped_no {l : List UInt8} {c : Nat} (h : shapedB l c = false) (hs : Shape l) : c ≤ byteN l 0 / 2 % 8 := by
  have := of_decide_eq_false h
  by_cases hc : c ≤ byteN l 0 / 2 % 8
  · exact hc
  · exact absurd ⟨hs.some_, hs.even, by omega, hs.least, hs.most, hs.tiny, hs.short⟩ this

set_option maxRecDepth 100000 in
set_option maxHeartbeats 4000000 in
theorem shaped_any (l : List UInt8) (c : Nat) (w : World) (hl : l.length ≤ 9223372036854775807) (hc : c ≤ 8) :
    Calls Tryz.prog 57 #[.string (bs l), .int .i64 c] w fun e w' => e = .returned (.bool (shapedB l c)) ∧ w' = w := by
  by_cases h0 : l.length = 0
  · have e : l = [] := List.length_eq_zero_iff.1 h0
    subst e
    have e2 : shapedB [] c = false := by unfold shapedB; rw [decide_eq_false_iff_not]; simp
    rw [e2]
    have he : ((bs []).toList == ([] : List UInt8)) = true := by rw [bs_toList]; rfl
    go_enter Tryz.func57, Tryz.ntmps57
    go_wp2
    go_ret
    exact ⟨rfl, rfl⟩
  · have s0 : 0 < (bs l).size := by rw [bs_size]; omega
    have b0 := byte_at l 0 (by omega) s0
    have l0 := byteN_lt l 0
    have hne : ((bs l).toList == ([] : List UInt8)) = false := by
      rw [beq_eq_false_iff_ne, bs_toList]
      intro e
      rw [e] at h0
      exact h0 rfl
    obtain ⟨r, hr⟩ : ∃ r, r = shapedB l c := ⟨_, rfl⟩
    have hd : r = decide (l.length ≠ 0 ∧ byteN l 0 % 2 = 0 ∧ byteN l 0 / 2 % 8 < c ∧ aheadN (byteN l 0 / 64) ≤ l.length ∧ l.length ≤ aheadN (byteN l 0 / 64) + 100 ∧ (byteN l 0 / 64 = 0 → byteN l 1 % 2 = 0) ∧ (byteN l 0 / 64 = 1 → byteN l 4 < 128)) := hr
    rw [← hr]
    have HD := hide hd
    obtain ⟨K, hK⟩ : ∃ K, K = byteN l 0 / 64 := ⟨_, rfl⟩
    have hK3 : K ≤ 3 := by omega
    have HK := hide hK
    obtain ⟨B, hB⟩ : ∃ B, B = byteN l 0 := ⟨_, rfl⟩
    rw [← hB] at b0 l0 hK
    have HB := hide hB
    have d1 : (B : Int).tdiv 64 = (K : Int) := by rw [hK, Int.tdiv_eq_ediv_of_nonneg (by omega)]; omega
    have d1' : (B : Int) / 64 = (K : Int) := by rw [hK]; omega
    have a1 := ahead_any K
    have HA := hide (a1 w hK3)
    clear hr hd hK hB a1 h0
    by_cases hlen : l.length < aheadN K
    · have hI : (l.length : Int) < ((aheadN K : Nat) : Int) := by omega
      go_enter Tryz.func57, Tryz.ntmps57
      go_wp2_with (go_at_call 94; refine (unhide HA).mono ?_; rintro e w1 ⟨rfl, h1⟩; have h1 := h1.symm; subst h1)
      all_goals go_ret
      all_goals refine ⟨retB ?_, rfl⟩
      all_goals
        have hKB : B / 64 = K := by rw [unhide HB]; exact (unhide HK).symm
        have hd := unhide HD
        rw [← unhide HB] at hd
        rw [hd]
        symm
        rw [decide_eq_false_iff_not]
        rintro ⟨_, _, _, h4, _⟩
        rw [hKB] at h4
        omega
    · have hKB : B / 64 = K := by rw [unhide HB]; exact (unhide HK).symm
      have hd := unhide HD
      rw [← unhide HB] at hd
      have HKB := hide hKB
      have Hd := hide hd
      clear hd hKB HD
      obtain rfl | rfl | rfl | rfl : K = 0 ∨ K = 1 ∨ K = 2 ∨ K = 3 := by omega
      · have s1 : 1 < (bs l).size := by rw [bs_size]; have : aheadN 0 = 2 := rfl; omega
        have b1 := byte_at l 1 (by rw [bs_size] at s1; exact s1) s1
        have l1 := byteN_lt l 1
        have hn : aheadN 0 = 2 := rfl
        rw [hn] at HA hlen
        have hI : ¬ ((l.length : Int) < 2) := by omega
        obtain ⟨B1, hB1⟩ : ∃ B1, B1 = byteN l 1 := ⟨_, rfl⟩
        rw [← hB1] at b1 l1
        have HB1 := hide hB1
        clear hB1
        go_enter Tryz.func57, Tryz.ntmps57
        go_wp2_with (go_at_call 94; refine (unhide HA).mono ?_; rintro e w1 ⟨rfl, h1⟩; have h1 := h1.symm; subst h1)
        all_goals go_ret
        all_goals refine ⟨retB ?_, rfl⟩
        all_goals
          rw [unhide Hd, unhide HKB, hn, ← unhide HB1]
          have q := unhide HKB
          (try simp only [beq_iff_eq, beq_eq_false_iff_ne, ne_eq] at *)
          first
            | (symm; rw [decide_eq_false_iff_not]; rintro ⟨g1, g2, g3, g4, g5, g6, g7⟩; (try have g6' := g6 rfl); (try have g7' := g7 rfl); (try have g8 := g6 trivial); (try have g9 := g7 trivial); (try simp at g6); (try simp at g7); omega)
            | (symm; rw [decide_eq_true_eq]; exact ⟨by omega, by omega, by omega, by omega, by omega, fun e => by omega, fun e => by omega⟩)
            | (symm; rw [decide_eq_decide]; refine ⟨?_, fun h => ⟨by omega, by omega, by omega, by omega, by omega, fun e => by omega, fun e => by omega⟩⟩; rintro ⟨g1, g2, g3, g4, g5, g6, g7⟩; (try have g6' := g6 rfl); (try have g7' := g7 rfl); (try have g8 := g6 trivial); (try have g9 := g7 trivial); (try simp at g6); (try simp at g7); omega)
            | (rw [Bool.eq_iff_iff]; simp only [decide_eq_true_eq, beq_iff_eq]; refine ⟨fun h => ⟨by omega, by omega, by omega, by omega, by omega, fun e => by omega, fun e => by omega⟩, ?_⟩; rintro ⟨g1, g2, g3, g4, g5, g6, g7⟩; (try have g6' := g6 rfl); (try have g7' := g7 rfl); (try have g8 := g6 trivial); (try have g9 := g7 trivial); (try simp at g6); (try simp at g7); omega)
      · have s1 : 4 < (bs l).size := by rw [bs_size]; have : aheadN 1 = 5 := rfl; omega
        have b1 := byte_at l 4 (by rw [bs_size] at s1; exact s1) s1
        have l1 := byteN_lt l 4
        have hn : aheadN 1 = 5 := rfl
        rw [hn] at HA hlen
        have hI : ¬ ((l.length : Int) < 5) := by omega
        obtain ⟨B1, hB1⟩ : ∃ B1, B1 = byteN l 4 := ⟨_, rfl⟩
        rw [← hB1] at b1 l1
        have HB1 := hide hB1
        clear hB1
        go_enter Tryz.func57, Tryz.ntmps57
        go_wp2_with (go_at_call 94; refine (unhide HA).mono ?_; rintro e w1 ⟨rfl, h1⟩; have h1 := h1.symm; subst h1)
        all_goals go_ret
        all_goals refine ⟨retB ?_, rfl⟩
        all_goals
          rw [unhide Hd, unhide HKB, hn, ← unhide HB1]
          have q := unhide HKB
          (try simp only [beq_iff_eq, beq_eq_false_iff_ne, ne_eq] at *)
          first
            | (symm; rw [decide_eq_false_iff_not]; rintro ⟨g1, g2, g3, g4, g5, g6, g7⟩; (try have g6' := g6 rfl); (try have g7' := g7 rfl); (try have g8 := g6 trivial); (try have g9 := g7 trivial); (try simp at g6); (try simp at g7); omega)
            | (symm; rw [decide_eq_true_eq]; exact ⟨by omega, by omega, by omega, by omega, by omega, fun e => by omega, fun e => by omega⟩)
            | (symm; rw [decide_eq_decide]; refine ⟨?_, fun h => ⟨by omega, by omega, by omega, by omega, by omega, fun e => by omega, fun e => by omega⟩⟩; rintro ⟨g1, g2, g3, g4, g5, g6, g7⟩; (try have g6' := g6 rfl); (try have g7' := g7 rfl); (try have g8 := g6 trivial); (try have g9 := g7 trivial); (try simp at g6); (try simp at g7); omega)
            | (rw [Bool.eq_iff_iff]; simp only [decide_eq_true_eq, beq_iff_eq]; refine ⟨fun h => ⟨by omega, by omega, by omega, by omega, by omega, fun e => by omega, fun e => by omega⟩, ?_⟩; rintro ⟨g1, g2, g3, g4, g5, g6, g7⟩; (try have g6' := g6 rfl); (try have g7' := g7 rfl); (try have g8 := g6 trivial); (try have g9 := g7 trivial); (try simp at g6); (try simp at g7); omega)
      · have hn : aheadN 2 = 13 := rfl
        rw [hn] at HA hlen
        have hI : ¬ ((l.length : Int) < 13) := by omega
        go_enter Tryz.func57, Tryz.ntmps57
        go_wp2_with (go_at_call 94; refine (unhide HA).mono ?_; rintro e w1 ⟨rfl, h1⟩; have h1 := h1.symm; subst h1)
        all_goals go_ret
        all_goals refine ⟨retB ?_, rfl⟩
        all_goals
          rw [unhide Hd, unhide HKB, hn]
          have q := unhide HKB
          (try simp only [beq_iff_eq, beq_eq_false_iff_ne, ne_eq] at *)
          first
            | (symm; rw [decide_eq_false_iff_not]; rintro ⟨g1, g2, g3, g4, g5, g6, g7⟩; (try have g6' := g6 rfl); (try have g7' := g7 rfl); (try have g8 := g6 trivial); (try have g9 := g7 trivial); (try simp at g6); (try simp at g7); omega)
            | (symm; rw [decide_eq_true_eq]; exact ⟨by omega, by omega, by omega, by omega, by omega, fun e => by omega, fun e => by omega⟩)
            | (symm; rw [decide_eq_decide]; refine ⟨?_, fun h => ⟨by omega, by omega, by omega, by omega, by omega, fun e => by omega, fun e => by omega⟩⟩; rintro ⟨g1, g2, g3, g4, g5, g6, g7⟩; (try have g6' := g6 rfl); (try have g7' := g7 rfl); (try have g8 := g6 trivial); (try have g9 := g7 trivial); (try simp at g6); (try simp at g7); omega)
            | (rw [Bool.eq_iff_iff]; simp only [decide_eq_true_eq, beq_iff_eq]; refine ⟨fun h => ⟨by omega, by omega, by omega, by omega, by omega, fun e => by omega, fun e => by omega⟩, ?_⟩; rintro ⟨g1, g2, g3, g4, g5, g6, g7⟩; (try have g6' := g6 rfl); (try have g7' := g7 rfl); (try have g8 := g6 trivial); (try have g9 := g7 trivial); (try simp at g6); (try simp at g7); omega)
      · have hn : aheadN 3 = 23 := rfl
        rw [hn] at HA hlen
        have hI : ¬ ((l.length : Int) < 23) := by omega
        go_enter Tryz.func57, Tryz.ntmps57
        go_wp2_with (go_at_call 94; refine (unhide HA).mono ?_; rintro e w1 ⟨rfl, h1⟩; have h1 := h1.symm; subst h1)
        all_goals go_ret
        all_goals refine ⟨retB ?_, rfl⟩
        all_goals
          rw [unhide Hd, unhide HKB, hn]
          have q := unhide HKB
          (try simp only [beq_iff_eq, beq_eq_false_iff_ne, ne_eq] at *)
          first
            | (symm; rw [decide_eq_false_iff_not]; rintro ⟨g1, g2, g3, g4, g5, g6, g7⟩; (try have g6' := g6 rfl); (try have g7' := g7 rfl); (try have g8 := g6 trivial); (try have g9 := g7 trivial); (try simp at g6); (try simp at g7); omega)
            | (symm; rw [decide_eq_true_eq]; exact ⟨by omega, by omega, by omega, by omega, by omega, fun e => by omega, fun e => by omega⟩)
            | (symm; rw [decide_eq_decide]; refine ⟨?_, fun h => ⟨by omega, by omega, by omega, by omega, by omega, fun e => by omega, fun e => by omega⟩⟩; rintro ⟨g1, g2, g3, g4, g5, g6, g7⟩; (try have g6' := g6 rfl); (try have g7' := g7 rfl); (try have g8 := g6 trivial); (try have g9 := g7 trivial); (try simp at g6); (try simp at g7); omega)
            | (rw [Bool.eq_iff_iff]; simp only [decide_eq_true_eq, beq_iff_eq]; refine ⟨fun h => ⟨by omega, by omega, by omega, by omega, by omega, fun e => by omega, fun e => by omega⟩, ?_⟩; rintro ⟨g1, g2, g3, g4, g5, g6, g7⟩; (try have g6' := g6 rfl); (try have g7' := g7 rfl); (try have g8 := g6 trivial); (try have g9 := g7 trivial); (try simp at g6); (try simp at g7); omega)

theorem feed_be (e m cid : Nat) : feedN e m cid = if e = 8 then (if m % 4 = 1 then [83] ++ be cid 1 else []) else if m % 4 = 2 then [68] ++ be cid 1 else if m % 4 = 0 then [83] ++ be cid 1 else [] := by
  unfold feedN letterN
  split
  · split
    · rw [if_neg (by simp)]
    · rw [if_pos rfl]
  · split
    · rw [if_neg (by simp)]
    · split
      · rw [if_neg (by simp)]
      · rw [if_pos rfl]
theorem ret_str2 {a b : List UInt8} (h : a = b) : Ending.returned (.string (bs a)) = .returned (.string (bs b)) := by rw [h]

set_option maxRecDepth 100000 in
set_option maxHeartbeats 2000000 in
theorem rasks_any (m cid e : Nat) (w : World) (hm : m < 256) (hc : cid < 8) (he : e < 11) :
    Calls Tryz.prog 59 #[.int .i64 m, .int .i64 cid, .int .i64 e] w fun x w' => x = .returned (.string (bs (feedN e m cid))) ∧ Below w.heap.size w w' := by
  rw [feed_be]
  obtain ⟨q, hq⟩ : ∃ q, q = m % 4 := ⟨_, rfl⟩
  have t1 : (m : Int).tmod 4 = (q : Int) := by rw [hq, Int.tmod_eq_emod_of_nonneg (by omega)]; omega
  have t2 : (m : Int) % 4 = (q : Int) := by rw [hq]; omega
  have hl : (be cid 1).length = 1 := be_length _ _
  have hq4 : q < 4 := by omega
  rw [← hq]
  clear hq
  have HB := hide (bytes_any (cid : Int) 1 w (by omega) (by omega) (by omega) (by omega))
  obtain ⟨T, hT⟩ : ∃ T, T = be cid 1 := ⟨_, rfl⟩
  rw [← hT] at hl ⊢
  have HT := hide hT
  clear hT
  by_cases h8 : e = 8
  · subst h8
    rw [if_pos rfl]
    by_cases h1 : q = 1
    · subst h1
      rw [if_pos rfl]
      go_enter Tryz.func59, Tryz.ntmps59
      go_wp2_with (go_at_call 85; refine (unhide HB).mono ?_; rintro e w1 ⟨rfl, h1⟩; have HW := hide h1; clear h1; rw [show be (cid : Int).toNat (1 : Int).toNat = T from (unhide HT).symm])
      go_ret
      exact ⟨ret_str2 rfl, unhide HW⟩
    · rw [if_neg h1]
      have h1I : ¬ ((q : Int) = 1) := by omega
      go_enter Tryz.func59, Tryz.ntmps59
      go_wp2_with (go_at_call 85; refine (unhide HB).mono ?_; rintro e w1 ⟨rfl, h1⟩; have HW := hide h1; clear h1; rw [show be (cid : Int).toNat (1 : Int).toNat = T from (unhide HT).symm])
      go_ret
      exact ⟨rfl, unhide HW⟩
  · rw [if_neg h8]
    have h8I : ¬ ((e : Int) = 8) := by omega
    obtain rfl | rfl | rfl | rfl : q = 0 ∨ q = 1 ∨ q = 2 ∨ q = 3 := by omega
    all_goals
      go_enter Tryz.func59, Tryz.ntmps59
      go_wp2_with (go_at_call 85; refine (unhide HB).mono ?_; rintro e w1 ⟨rfl, h1⟩; have HW := hide h1; clear h1; rw [show be (cid : Int).toNat (1 : Int).toNat = T from (unhide HT).symm])
      go_ret
      exact ⟨ret_str2 rfl, unhide HW⟩

end Go.Proofs.YtgpojbgjfibblaaGreat.texts

namespace Go.Proofs.YtgpojbgjfibblaaGreat.texts
open Go.RowKit
set_option linter.unusedVariables false
attribute [local go_sem ↓] Go.wp_at_zero Go.wp_at_succ
attribute [local go_sem] bs_size be_length bs_append List.length_append bs_extract bs_list

/-- a packet taken apart is stored, kept whole -/
def storeFf (v u : Value) : Sem Unit := Instr.storeAt 125 v u
theorem storeFf_eq (v u : Value) : Instr.storeAt 125 v u = storeFf v u := rfl
theorem infoFf : (Tryz.prog.info? 125).map (·.size) = some 8 := by kernel_rfl
def FfTo (w : World) (g : Nat) : Prop := ∃ c t, w.heap[g]? = some (.cells c t (0, 0)) ∧ c.size = 8
def GoodFf (C : Array Value) : Prop := C.size = 8 ∧ C.all (·.oneCell') = true
theorem run_storeFf (w : World) (g : Nat) (C : Array Value) (h : FfTo w g) (hC : GoodFf C) : (storeFf (.pointer (some ⟨g, 0, none⟩)) (.agg C)).run Tryz.prog w = .ok () (w.setRow g C) := by
  obtain ⟨c, t, h1, h2⟩ := h
  have h3 := run_storeVar_row (P := Tryz.prog) w g t 125 c C h1 (by rw [infoFf, hC.1]) (by rw [hC.1, h2]) hC.2
  simp only [storeFf, Instr.storeAt, Instr.sureAddr, Sem.run_bind, Sem.run_pure, Result.andThen_ok, h3]
theorem Pk.flat_one (p : Pk) : p.flat.all (·.oneCell') = true := by
  refine Array.all_eq_true_iff_forall_mem.2 (fun v hv => ?_)
  simp only [Pk.flat, List.mem_toArray, List.mem_cons, List.not_mem_nil, or_false] at hv
  rcases hv with h | h | h | h | h | h | h | h <;> (subst h; rfl)
theorem Pk.goodFf (p : Pk) : GoodFf p.flat := ⟨rfl, Pk.flat_one p⟩
/-- loads of a packet taken apart, and of a state, kept whole -/
def ffOf (w : World) (g : Nat) : Array Value := match w.heap[g]? with | some (.cells c _ _) => c | _ => #[]
def FfIn (w : World) (g : Nat) : Prop := ∃ c t fr, w.heap[g]? = some (.cells c t fr) ∧ c.size = 8
def loadFf (v : Value) : Sem Value := Instr.loadAt 125 v
theorem loadFf_eq (v : Value) : Instr.loadAt 125 v = loadFf v := rfl
theorem run_loadFf (w : World) (g : Nat) (h : FfIn w g) : (loadFf (.pointer (some ⟨g, 0, none⟩))).run Tryz.prog w = .ok (.agg (ffOf w g)) w := by
  obtain ⟨c, t, fr, h1, h2⟩ := h
  have := run_loadAt_mid (P := Tryz.prog) w g 0 125 _ _ (World.rangeAt_of_block h1 0 8) Tryz.underlying125 rfl (by rw [infoFf]; simp; omega)
  have e : c.extract 0 (0 + 8) = c := by rw [show 0 + 8 = c.size by omega]; exact Array.extract_size
  rw [e] at this
  simpa [loadFf, ffOf, h1] using this
def RsRd (w : World) (g : Nat) : Prop := ∃ c t fr, w.heap[g]? = some (.cells c t fr) ∧ c.size = 5
def loadRs (v : Value) : Sem Value := Instr.loadAt 111 v
theorem loadRs_eq (v : Value) : Instr.loadAt 111 v = loadRs v := rfl
theorem run_loadRs (w : World) (g : Nat) (h : RsRd w g) : (loadRs (.pointer (some ⟨g, 0, none⟩))).run Tryz.prog w = .ok (.agg (ffOf w g)) w := by
  obtain ⟨c, t, fr, h1, h2⟩ := h
  have := run_loadAt_mid (P := Tryz.prog) w g 0 111 _ _ (World.rangeAt_of_block h1 0 5) Tryz.underlying111 rfl (by rw [infoRs]; simp; omega)
  have e : c.extract 0 (0 + 5) = c := by rw [show 0 + 5 = c.size by omega]; exact Array.extract_size
  rw [e] at this
  simpa [loadRs, ffOf, h1] using this
theorem ff_in {w : World} {g : Nat} {p : Pk} {t : TypeId} {fr : Nat × Nat} (h : w.heap[g]? = some (.cells p.flat t fr)) : FfIn w g ∧ ffOf w g = p.flat := ⟨⟨_, _, _, h, rfl⟩, by unfold ffOf; rw [h]⟩
theorem rs_in {w : World} {g : Nat} {n : St} {t : TypeId} {fr : Nat × Nat} (h : w.heap[g]? = some (.cells n.flat t fr)) : RsRd w g ∧ ffOf w g = n.flat := ⟨⟨_, _, _, h, rfl⟩, by unfold ffOf; rw [h]⟩
/-- three results, two of them in blocks -/
theorem ret_cells2 {fn : Func} {p q r : Tmp} {ty1 ty2 : TypeId} {d1 d2 : TypeDesc} {a : Act} {w : World} {g1 g2 : Nat} {t1 t2 : TypeId} {c1 c2 : Array Value} {R : Ending → World → Prop}
    (h : fn.results = #[.cell p ty1, .cell q ty2, .tmp r]) (hp : a.tmps.getD p undef = .pointer (some ⟨g1, 0, none⟩)) (hq : a.tmps.getD q undef = .pointer (some ⟨g2, 0, none⟩)) (hg1 : w.heap[g1]? = some (.cells c1 t1 (0, 0))) (hg2 : w.heap[g2]? = some (.cells c2 t2 (0, 0)))
    (hu1 : Tryz.prog.underlying ty1 = some d1) (hd1 : d1.isRow = true) (hi1 : (Tryz.prog.info? ty1).map (·.size) = some c1.size) (hu2 : Tryz.prog.underlying ty2 = some d2) (hd2 : d2.isRow = true) (hi2 : (Tryz.prog.info? ty2).map (·.size) = some c2.size) (hf : a.defers = []) (hR : R (.returned (.tuple #[.agg c1, .agg c2, a.tmps.getD r undef])) w) :
    bodyPost Tryz.prog fn R .ret a w := by
  refine bodyPost_ret (v := .tuple #[.agg c1, .agg c2, a.tmps.getD r undef]) ?_ hf hR
  have hp' : a.tmps[p]?.getD undef = .pointer (some ⟨g1, 0, none⟩) := by simpa using hp
  have hq' : a.tmps[q]?.getD undef = .pointer (some ⟨g2, 0, none⟩) := by simpa using hq
  have e1 := run_loadVar_mid (P := Tryz.prog) w g1 0 ty1 c1.toList d1 (range_block hg1) hu1 hd1 (by rw [hi1, Array.length_toList])
  have e2 := run_loadVar_mid (P := Tryz.prog) w g2 0 ty2 c2.toList d2 (range_block hg2) hu2 hd2 (by rw [hi2, Array.length_toList])
  simp [results, h, hp', hq', asAddr, e1, e2]
attribute [local go_sem ↓] storeFf_eq loadFf_eq loadRs_eq storeRs_eq
attribute [local go_sem] run_storeFf run_loadFf run_loadRs run_storeRs

/-- the two blocks of the results, and what came before -/
structure InM (w : World) (X : Array Value) (F N : Array Value) (w1 : World) : Prop where
  one : w1.heap[w.heap.size]? = some (.cells X 109 (0, 0))
  two : w1.heap[w.heap.size + 1]? = some (.cells F 125 (0, 0))
  three : w1.heap[w.heap.size + 1 + 1]? = some (.cells N 111 (0, 0))
  below : Below w.heap.size w w1
theorem InM.start (w : World) (X F N : Array Value) : InM w X F N (((w.alloc (.cells X 109)).alloc (.cells F 125)).alloc (.cells N 111)) :=
  ⟨block_alloc (block_alloc (heap_alloc_new w _) _) _, second_alloc w _ _ _, third_alloc w _ _ _, (((Below.refl _ _).alloc (Nat.le_refl _) _).alloc (by simp) _).alloc (by simp; omega) _⟩
theorem InM.call {w w1 w2 : World} {X F N : Array Value} (h : InM w X F N w1) (hb : Below w1.heap.size w1 w2) : InM w X F N w2 :=
  ⟨block_keep h.one hb, block_keep h.two hb, block_keep h.three hb, keep_below h.below hb (Nat.le_of_lt (block_lt h.one))⟩
theorem InM.drew {w w1 : World} {X F N : Array Value} (h : InM w X F N w1) : InM w X F N w1.drew := ⟨h.one, h.two, h.three, h.below.drew⟩
theorem InM.putF {w w1 : World} {X F N : Array Value} (h : InM w X F N w1) (C : Array Value) : InM w X C N (w1.setRow (w.heap.size + 1) C) :=
  ⟨by rw [setRow_other _ _ _ _ (by omega)]; exact h.one, setRow_heap _ _ _ _ _ _ h.two, by rw [setRow_other _ _ _ _ (by omega)]; exact h.three, below_setRow h.below (by omega) _⟩
theorem InM.putN {w w1 : World} {X F N : Array Value} (h : InM w X F N w1) (C : Array Value) : InM w X F C (w1.setRow (w.heap.size + 1 + 1) C) :=
  ⟨by rw [setRow_other _ _ _ _ (by omega)]; exact h.one, by rw [setRow_other _ _ _ _ (by omega)]; exact h.two, setRow_heap _ _ _ _ _ _ h.three, below_setRow h.below (by omega) _⟩
theorem InM.put {w w1 : World} {X F N : Array Value} (h : InM w X F N w1) {g : Nat} (hg : w.heap.size + 1 + 1 < g) (C : Array Value) : InM w X F N (w1.setRow g C) :=
  ⟨by rw [setRow_other _ _ _ _ (by omega)]; exact h.one, by rw [setRow_other _ _ _ _ (by omega)]; exact h.two, by rw [setRow_other _ _ _ _ (by omega)]; exact h.three, below_setRow h.below (by omega) _⟩
/-- with a packet in a block of its own -/
structure InMf (w : World) (X F N : Array Value) (gf : Nat) (P : Array Value) (w1 : World) : Prop where
  all : InM w X F N w1
  fl : w1.heap[gf]? = some (.cells P 125 (0, 0))
  up : w.heap.size + 1 + 1 < gf
theorem InMf.call {w w1 w2 : World} {X F N : Array Value} {gf : Nat} {P : Array Value} (h : InMf w X F N gf P w1) (hb : Below w1.heap.size w1 w2) : InMf w X F N gf P w2 := ⟨h.all.call hb, block_keep h.fl hb, h.up⟩
theorem InMf.drew {w w1 : World} {X F N : Array Value} {gf : Nat} {P : Array Value} (h : InMf w X F N gf P w1) : InMf w X F N gf P w1.drew := ⟨h.all.drew, h.fl, h.up⟩
theorem InMf.new {w w1 : World} {X F N : Array Value} (h : InM w X F N w1) (P : Array Value) : InMf w X F N w1.heap.size P (w1.alloc (.cells P 125)) :=
  ⟨h.call ((Below.refl _ _).alloc (Nat.le_refl _) _), heap_alloc_new w1 _, block_lt h.three⟩
theorem InMf.put {w w1 : World} {X F N : Array Value} {gf : Nat} {P : Array Value} (h : InMf w X F N gf P w1) (C : Array Value) : InMf w X F N gf C (w1.setRow gf C) := ⟨h.all.put h.up C, setRow_heap _ _ _ _ _ _ h.fl, h.up⟩
/-- and a state -/
structure InMn (w : World) (X F N : Array Value) (gf : Nat) (P : Array Value) (gn : Nat) (S : Array Value) (w1 : World) : Prop where
  all : InMf w X F N gf P w1
  st : w1.heap[gn]? = some (.cells S 111 (0, 0))
  up : w.heap.size + 1 + 1 < gn
  ne : gn ≠ gf
theorem InMn.call {w w1 w2 : World} {X F N : Array Value} {gf gn : Nat} {P S : Array Value} (h : InMn w X F N gf P gn S w1) (hb : Below w1.heap.size w1 w2) : InMn w X F N gf P gn S w2 := ⟨h.all.call hb, block_keep h.st hb, h.up, h.ne⟩
theorem InMn.drew {w w1 : World} {X F N : Array Value} {gf gn : Nat} {P S : Array Value} (h : InMn w X F N gf P gn S w1) : InMn w X F N gf P gn S w1.drew := ⟨h.all.drew, h.st, h.up, h.ne⟩
theorem InMn.new {w w1 : World} {X F N : Array Value} {gf : Nat} {P : Array Value} (h : InMf w X F N gf P w1) (S : Array Value) : InMn w X F N gf P w1.heap.size S (w1.alloc (.cells S 111)) :=
  have h1 := block_lt h.fl
  ⟨h.call ((Below.refl _ _).alloc (Nat.le_refl _) _), heap_alloc_new w1 _, block_lt h.all.three, by omega⟩
theorem InMn.put {w w1 : World} {X F N : Array Value} {gf gn : Nat} {P S : Array Value} (h : InMn w X F N gf P gn S w1) (C : Array Value) : InMn w X F N gf P gn C (w1.setRow gn C) :=
  ⟨⟨h.all.all.put h.up C, by rw [setRow_other _ _ _ _ (fun e => h.ne e.symm)]; exact h.all.fl, h.all.up⟩, setRow_heap _ _ _ _ _ _ h.st, h.up, h.ne⟩
theorem InMn.done {w w1 : World} {X F N : Array Value} {gf gn : Nat} {P S : Array Value} (h : InMn w X F N gf P gn S w1) (A C : Array Value) : InMn w X A N gf P gn S (w1.setRow (w.heap.size + 1) A) ∧ InMn w X F C gf P gn S (w1.setRow (w.heap.size + 1 + 1) C) := by
  have a1 := h.up
  have a2 := h.all.up
  exact ⟨⟨⟨h.all.all.putF A, by rw [setRow_other _ _ _ _ (by omega)]; exact h.all.fl, a2⟩, by rw [setRow_other _ _ _ _ (by omega)]; exact h.st, a1, h.ne⟩, ⟨⟨h.all.all.putN C, by rw [setRow_other _ _ _ _ (by omega)]; exact h.all.fl, a2⟩, by rw [setRow_other _ _ _ _ (by omega)]; exact h.st, a1, h.ne⟩⟩

/-- whatever the results' blocks hold -/
def InMo (w : World) (X : Array Value) (gf : Nat) (P : Array Value) (gn : Nat) (S : Array Value) (w1 : World) : Prop := ∃ F N, F.size = 8 ∧ N.size = 5 ∧ InMn w X F N gf P gn S w1
theorem InMo.out {w w1 : World} {X P S : Array Value} {gf gn : Nat} (hP : P.size = 8) (hS : S.size = 5) (h : InMo w X gf P gn S w1) : FfIn w1 gf ∧ ffOf w1 gf = P ∧ RsRd w1 gn ∧ ffOf w1 gn = S ∧ FfTo w1 (w.heap.size + 1) ∧ RsIn w1 (w.heap.size + 1 + 1) ∧ InMo w X gf P gn S w1 := by
  obtain ⟨F, N, h1, h2, h3⟩ := h
  exact ⟨⟨_, _, _, h3.all.fl, hP⟩, by unfold ffOf; rw [h3.all.fl], ⟨_, _, _, h3.st, hS⟩, by unfold ffOf; rw [h3.st], ⟨_, _, h3.all.all.two, h1⟩, ⟨_, _, h3.all.all.three, h2⟩, F, N, h1, h2, h3⟩
theorem chk_same (a b : Nat) (hb : b < 256) : ((a : Int) == IntKind.i64.wrap (b : Int)) = decide (a = b) := by
  have e : IntKind.i64.wrap (b : Int) = (b : Int) := by rw [IntKind.wrap_i64]; omega
  rw [e, Bool.eq_iff_iff, beq_iff_eq, decide_eq_true_eq]
  omega
def MadeIs (w : World) (c : Rx) (l : List UInt8) (e : Ending) (w' : World) : Prop :=
  e = .returned (.tuple #[.agg (madeN c (shapeF l)).flat, .agg (followN c (shapeF l)).st.flat, .bool (decide (chk (widthN (shapeF l).kind) (madeN c (shapeF l)) = (shapeF l).chk))]) ∧ Below w.heap.size w w'

set_option maxRecDepth 100000 in
set_option maxHeartbeats 8000000 in
theorem made_3 (x : Rc) (c : Rx) (l : List UInt8) (w : World) (hc : c.ok) (h : Shape l) (hk : byteN l 0 / 64 = 3) (hl : l.length ≤ 1000) :
    Calls Tryz.prog 58 #[.agg x.cells, .string (bs l)] w fun e w' => MadeIs w c l e w' := by
  obtain ⟨m1, m2, m3⟩ := made_whole (c := c) h hk
  have hle : 23 ≤ l.length := by have := h.least; rw [hk] at this; exact this
  have kd : (shapeF l).kind = 3 := (shapeF_parts l).1.trans hk
  have s0 : 0 < (bs l).size := by rw [bs_size]; omega
  have b0 := byte_at l 0 (by omega) s0
  have l0 := byteN_lt l 0
  obtain ⟨B, hB⟩ : ∃ B, B = byteN l 0 := ⟨_, rfl⟩
  rw [← hB] at b0 l0 hk
  have d1 : (B : Int).tdiv 64 = 3 := by rw [Int.tdiv_eq_ediv_of_nonneg (by omega)]; omega
  have d2 : (B : Int) / 64 = 3 := by omega
  obtain ⟨P, hP⟩ : ∃ P, P = madeN c (shapeF l) := ⟨_, rfl⟩
  obtain ⟨n, hn⟩ : ∃ n, n = (followN c (shapeF l)).st := ⟨_, rfl⟩
  have hPok : P.ok := by rw [hP]; exact madeN_ok hc (readF_ok (readF_shape h)).1
  rw [← hP] at m1 m2
  rw [← hn] at m2
  have HP := hide hP
  have HN := hide hn
  have HM1 := hide m1
  have HM2 := hide m2
  have HM3 := hide m3
  have HK := hide kd
  have HPO := hide hPok
  obtain ⟨X, hX⟩ : ∃ X, X = x.cells := ⟨_, rfl⟩
  have x1 : X[1]? = some (.int .u32 (x.src : Int)) := by rw [hX]; rfl
  have x2 : X[2]? = some (.int .u32 (x.dst : Int)) := by rw [hX]; rfl
  have x3 : X[3]? = some (.int .u16 (x.port : Int)) := by rw [hX]; rfl
  rw [← hX]
  obtain ⟨ZF, hZF⟩ : ∃ ZF : Array Value, ZF = zeroP.flat := ⟨_, rfl⟩
  have zvF : ∀ w, (zeroValue 125).run Tryz.prog w = .ok (.agg ZF) w := by rw [hZF]; intro w; exact Tryz.zeroValue125 w
  obtain ⟨Z5, hZ5⟩ : ∃ Z5 : Array Value, Z5 = St.zero.flat := ⟨_, rfl⟩
  have zv5 : ∀ w, (zeroValue 111).run Tryz.prog w = .ok (.agg Z5) w := by rw [hZ5]; intro w; exact Tryz.zeroValue111 w
  have HZF := hide hZF
  have HZ5 := hide hZ5
  obtain ⟨FP, hFP⟩ : ∃ FP, FP = P.flat := ⟨_, rfl⟩
  obtain ⟨NP, hNP⟩ : ∃ NP, NP = n.flat := ⟨_, rfl⟩
  have gF : GoodFf FP := by rw [hFP]; exact Pk.goodFf P
  have gN : GoodRs NP := by rw [hNP]; exact St.goodRs n
  have HFP := hide hFP
  have HNP := hide hNP
  have HI0 := hide (InM.start w X ZF Z5)
  have HA : ∀ w : World, Calls Tryz.prog 94 #[.int .i64 3] w fun e w' => e = .returned (.int .i64 23) ∧ w' = w := fun w => ahead_any 3 w (by omega)
  have HA' := hide HA
  clear hX hZF hZ5 hP hn hPok m1 m2 m3 kd hFP hNP hB HA hk h hc
  go_enter Tryz.func58, Tryz.ntmps58
  go_upto_region 9 with (first
    | (go_at_call 94; refine (unhide HA' _).mono ?_; rintro e w1 ⟨rfl, h1⟩; have h1 := h1.symm; subst h1)
    | (go_at_call 95; refine Stop.out ?_))
  refine ⟨?_⟩
  obtain ⟨T, hT⟩ : ∃ T, T = (List.take 11 l).tail := ⟨_, rfl⟩
  have hTl : T.length = 10 := by rw [hT, List.length_tail, List.length_take]; omega
  rw [← hT]
  have eW : (((w.alloc (.cells X 109)).alloc (.cells ZF 125)).alloc (.cells Z5 111)).heap.size = w.heap.size + 1 + 1 + 1 := by simp
  have RB0 := heap_alloc_new (((w.alloc (.cells X 109)).alloc (.cells ZF 125)).alloc (.cells Z5 111)) (.cells #[.int .u32 (x.src : Int), .int .u32 (x.dst : Int), .int .u16 (x.port : Int)] 39)
  rw [eW] at RB0
  have I1 := (unhide HI0).call ((Below.refl _ _).alloc (Nat.le_refl _) (.cells #[.int .u32 (x.src : Int), .int .u32 (x.dst : Int), .int .u16 (x.port : Int)] 39))
  refine (routeOf_any T _ hTl).mono ?_
  rintro e w1 ⟨rfl, hb1⟩
  have RB1 := block_keep RB0 hb1
  have HI1 := hide (I1.call hb1)
  obtain ⟨a, ha⟩ : ∃ a, a = numOf (T.take 4) := ⟨_, rfl⟩
  obtain ⟨b, hb⟩ : ∃ b, b = numOf ((T.take 8).drop 4) := ⟨_, rfl⟩
  obtain ⟨cc, hcc⟩ : ∃ c, c = numOf ((T.take 10).drop 8) := ⟨_, rfl⟩
  rw [← ha, ← hb, ← hcc]
  have HPW := hide (show P = withP a b cc ((l.drop 11).take 9) (l.drop 23) by rw [unhide HM1, ha, hb, hcc, hT, List.drop_one])
  have r0 : w1.cell? ⟨w.heap.size + 1 + 1 + 1, 0, none⟩ = some (.int .u32 (x.src : Int)) := block_cell RB1 0
  have r1 : w1.cell? ⟨w.heap.size + 1 + 1 + 1, 1, none⟩ = some (.int .u32 (x.dst : Int)) := block_cell RB1 1
  have r2 : w1.cell? ⟨w.heap.size + 1 + 1 + 1, 2, none⟩ = some (.int .u16 (x.port : Int)) := block_cell RB1 2
  have f0 := block_free RB1 0
  have f1 := block_free RB1 1
  have f2 := block_free RB1 2
  have HRB1 := hide RB1
  clear hb1 RB1 RB0 I1 HI0 eW ha hb hcc hT hTl HM1 x1 x2 x3
  go_upto_region 9 with fail
  have RB2 := block_put (block_put (block_put (unhide HRB1) 0 (.int .u32 (a : Int))) 1 (.int .u32 (b : Int))) 2 (.int .u16 (cc : Int))
  have I2 : InM w X ZF Z5 (((w1.setCell ⟨w.heap.size + 1 + 1 + 1, 0, none⟩ (.int .u32 (a : Int))).setCell ⟨w.heap.size + 1 + 1 + 1, 1, none⟩ (.int .u32 (b : Int))).setCell ⟨w.heap.size + 1 + 1 + 1, 2, none⟩ (.int .u16 (cc : Int))) := by
    have n0 : w.heap.size ≠ w.heap.size + 1 + 1 + 1 := by omega
    have n1 : w.heap.size + 1 ≠ w.heap.size + 1 + 1 + 1 := by omega
    have n2 : w.heap.size + 1 + 1 ≠ w.heap.size + 1 + 1 + 1 := by omega
    have I := unhide HI1
    exact ⟨block_set (block_set (block_set I.one (by exact n0) _) (by exact n0) _) (by exact n0) _, block_set (block_set (block_set I.two (by exact n1) _) (by exact n1) _) (by exact n1) _, block_set (block_set (block_set I.three (by exact n2) _) (by exact n2) _) (by exact n2) _, ((I.below.setCell (by show w.heap.size ≤ w.heap.size + 1 + 1 + 1; omega) _).setCell (by show w.heap.size ≤ w.heap.size + 1 + 1 + 1; omega) _).setCell (by show w.heap.size ≤ w.heap.size + 1 + 1 + 1; omega) _⟩
  clear r0 r1 r2 f0 f1 f2 HI1 HRB1
  generalize ((w1.setCell ⟨w.heap.size + 1 + 1 + 1, 0, none⟩ (.int .u32 (a : Int))).setCell ⟨w.heap.size + 1 + 1 + 1, 1, none⟩ (.int .u32 (b : Int))).setCell ⟨w.heap.size + 1 + 1 + 1, 2, none⟩ (.int .u16 (cc : Int)) = w2 at RB2 I2 ⊢
  generalize w.heap.size + 1 + 1 + 1 = gr at RB2 ⊢
  have r0 : w2.cell? ⟨gr, 0, none⟩ = some (.int .u32 (a : Int)) := block_cell RB2 0
  have r1 : w2.cell? ⟨gr, 1, none⟩ = some (.int .u32 (b : Int)) := block_cell RB2 1
  have r2 : w2.cell? ⟨gr, 2, none⟩ = some (.int .u16 (cc : Int)) := block_cell RB2 2
  have r0d : w2.drew.cell? ⟨gr, 0, none⟩ = some (.int .u32 (a : Int)) := r0
  have r1d : w2.drew.cell? ⟨gr, 1, none⟩ = some (.int .u32 (b : Int)) := r1
  have r2d : w2.drew.cell? ⟨gr, 2, none⟩ = some (.int .u16 (cc : Int)) := r2
  have hgr : gr < w2.heap.size := block_lt RB2
  have t9 : ((l.drop 11).take 9).length = 9 := by rw [List.length_take, List.length_drop]; omega
  have HI2 := hide I2
  clear RB2 I2
  obtain ⟨U, hU⟩ : ∃ U, U = l.drop 11 := ⟨_, rfl⟩
  have hUl : U.length = l.length - 11 := by rw [hU, List.length_drop]
  rw [← hU] at t9 HPW ⊢
  have HU := hide hU
  clear hU
  go_cut [11] (fun v wx => ∃ gf, v = .pointer (some ⟨gf, 0, none⟩) ∧ InMf w X ZF Z5 gf FP wx)
  case first =>
    have gA : ∀ w : World, FfTo (w.alloc (.cells ZF 125)) w.heap.size := fun w => ⟨_, _, heap_alloc_new w _, by rw [unhide HZF]; rfl⟩
    go_region_with ((go_at_call 96; refine (with_any a b cc _ _ _ t9).mono ?_; rintro e w5 ⟨rfl, hbel⟩; rw [← unhide HPW, ← unhide HFP]; first | (have HT5 := hide (InMf.call (InMf.new (unhide HI2).drew ZF) hbel); have gz : FfTo w5 w2.heap.size := ⟨_, _, (unhide HT5).fl, by rw [unhide HZF]; rfl⟩; clear hbel) | (have HI5 := hide (InM.call (unhide HI2).drew hbel); clear hbel)))
    all_goals
      first
        | (have HF := hide ((unhide HT5).put FP); go_wp2_with fail; go_meet; case rel => exact ⟨_, rfl, unhide HF⟩)
        | (have HF := hide ((InMf.new (unhide HI5) ZF).put FP); go_wp2_with fail; go_meet; case rel => exact ⟨_, rfl, unhide HF⟩)
  case rest =>
    obtain ⟨gf, rfl, I3⟩ := hcut
    clear HI2 r0 r1 r2 r0d r1d r2d
    obtain ⟨sd, hsd⟩ : ∃ sd, sd = numOf ((U.take 11).drop 9) := ⟨_, rfl⟩
    have hsd2 : sd < 65536 := by rw [hsd]; exact numOf_lt' 2 (by simp; omega)
    have hnum : (bs ((U.take 11).drop 9)).size ≤ 7 := by rw [bs_size]; simp; omega
    have hbl : (bs ((U.take 11).drop 9)).data.toList = (U.take 11).drop 9 := bs_list _
    have HSD := hide hsd
    have HM2' := hide (show n = stateN P sd by rw [unhide HM2, hsd, unhide HU])
    have u1 : ∀ W : World, W.heap[gf]? = some (.cells FP 125 (0, 0)) → FfIn W gf ∧ ffOf W gf = FP := fun W hW => ⟨⟨_, _, _, hW, gF.1⟩, by unfold ffOf; rw [hW]⟩
    have y1 : FfIn wc.drew gf := (u1 _ I3.fl).1
    have y2 : ffOf wc.drew gf = FP := (u1 _ I3.fl).2
    have y1a : ∀ O, FfIn (wc.drew.alloc O) gf := fun O => (u1 _ (block_alloc (show wc.drew.heap[gf]? = _ from I3.fl) O)).1
    have y2a : ∀ O, ffOf (wc.drew.alloc O) gf = FP := fun O => (u1 _ (block_alloc (show wc.drew.heap[gf]? = _ from I3.fl) O)).2
    have y1b : ∀ O, FfIn (wc.alloc O).drew gf := fun O => (u1 _ (show (wc.alloc O).drew.heap[gf]? = _ from block_alloc I3.fl O)).1
    have y2b : ∀ O, ffOf (wc.alloc O).drew gf = FP := fun O => (u1 _ (show (wc.alloc O).drew.heap[gf]? = _ from block_alloc I3.fl O)).2
    have HI3 := hide I3
    clear I3 hsd HM2 u1
    go_upto_region 10 with fail
    go_cut [12] (fun v wx => ∃ gn, v = .pointer (some ⟨gn, 0, none⟩) ∧ InMn w X ZF Z5 gf FP gn NP wx)
    case first =>
      have gA : ∀ w : World, RsIn (w.alloc (.cells Z5 111)) w.heap.size := fun w => ⟨_, _, heap_alloc_new w _, by rw [unhide HZ5]; rfl⟩
      go_region_with ((first
        | (go_at_call 97; refine (number_any _ _ hnum).mono ?_; rintro e w5 ⟨rfl, h5⟩; have h5 := h5.symm; subst h5; rw [hbl, ← unhide HSD])
        | (go_at_call 81; rw [unhide HFP]; refine (rstateOf_any P sd _ (unhide HPO) hsd2).mono ?_; rintro e w6 ⟨rfl, hbel⟩; rw [← unhide HFP, ← unhide HM2', ← unhide HNP]; first | (have HT6 := hide (InMn.call (InMn.new (unhide HI3).drew Z5) hbel); have gz : RsIn w6 wc.heap.size := ⟨_, _, (unhide HT6).st, by rw [unhide HZ5]; rfl⟩; clear hbel) | (have HI6 := hide (InMf.call (unhide HI3).drew hbel); clear hbel))))
      all_goals
        first
          | (have HF := hide ((unhide HT6).put NP); go_wp2_with fail; go_meet; case rel => exact ⟨_, rfl, unhide HF⟩)
          | (have HF := hide ((InMn.new (unhide HI6) Z5).put NP); go_wp2_with fail; go_meet; case rel => exact ⟨_, rfl, unhide HF⟩)
    case rest =>
      obtain ⟨gn, rfl, I4⟩ := hcut
      clear y1 y2 y1a y2a y1b y2b HI3
      have sU : 11 < (bs U).size := by rw [bs_size]; omega
      have bU := byte_at U 11 (by omega) sU
      have lU := byteN_lt U 11
      obtain ⟨C, hC⟩ : ∃ C, C = byteN U 11 := ⟨_, rfl⟩
      rw [← hC] at bU lU
      have HC := hide (show (shapeF l).chk = C by rw [unhide HM3, hC, unhide HU, byteN_drop])
      have HI4 := hide I4
      clear hC I4
      go_upto_region 11 with fail
      obtain ⟨G, hG⟩ : ∃ G : Bool, G = decide (chk 8 P = C) := ⟨_, rfl⟩
      have HG := hide hG
      clear hG
      have hzF : ZF.size = 8 := by rw [unhide HZF]; rfl
      have hz5 : Z5.size = 5 := by rw [unhide HZ5]; rfl
      have HzF := hide hzF
      have Hz5 := hide hz5
      clear hzF hz5
      go_cut [6] (fun v wx => v = .bool G ∧ InM w X FP NP wx)
      case first =>
        have HQ := hide (unhide HI4).drew
        go_region_held3 (fun w' => FfIn w' gf ∧ ffOf w' gf = FP ∧ RsRd w' gn ∧ ffOf w' gn = NP ∧ FfTo w' (w.heap.size + 1) ∧ RsIn w' (w.heap.size + 1 + 1) ∧ InMo w X gf FP gn NP w')
          ((first
            | (exact InMo.out gF.1 gN.1 ⟨_, _, unhide HzF, unhide Hz5, (unhide HI4).drew⟩)
            | (exact InMo.out gF.1 gN.1 ⟨_, _, unhide HzF, unhide Hz5, unhide (by assumption : Hid (InMn w X ZF Z5 gf FP gn NP _))⟩)
            | (exact InMo.out gF.1 gN.1 ⟨_, _, gF.1, unhide Hz5, ((unhide (by assumption : Hid (InMn w X ZF Z5 gf FP gn NP _))).done FP NP).1⟩)
            | (exact InMo.out gF.1 gN.1 ⟨_, _, unhide HzF, gN.1, ((unhide (by assumption : Hid (InMn w X ZF Z5 gf FP gn NP _))).done FP NP).2⟩)
            | (exact InMo.out gF.1 gN.1 ⟨_, _, gF.1, gN.1, ((((unhide (by assumption : Hid (InMn w X ZF Z5 gf FP gn NP _))).done FP NP).1).done FP NP).2⟩)
            | (exact InMo.out gF.1 gN.1 ⟨_, _, gF.1, gN.1, ((((unhide (by assumption : Hid (InMn w X ZF Z5 gf FP gn NP _))).done FP NP).2).done FP NP).1⟩)))
          ((first
            | (go_at_call 86; rw [unhide HFP]; refine (header_any P _ (unhide HPO)).mono ?_; rintro e w7 ⟨rfl, hbel⟩; rw [← unhide HFP]; have HQ7 := hide (InMn.call (unhide (by assumption : Hid (InMn w X ZF Z5 gf FP gn NP _))) hbel))
            | (go_at_call 87; refine (rchk8 P _).mono ?_; rintro e w8 ⟨rfl, hbel⟩; have HQ8 := hide (InMn.call (unhide (by assumption : Hid (InMn w X ZF Z5 gf FP gn NP _))) hbel))))
        all_goals go_split_ands
        all_goals go_wp2_with fail
        all_goals go_meet
        all_goals (case rel => exact ⟨by rw [unhide HG, ← chk_same (chk 8 P) C lU], ((unhide (by assumption : Hid (InMn w X ZF Z5 gf FP gn NP w8))).all.all.putF FP).putN NP⟩)
      case rest =>
        obtain ⟨rfl, I5⟩ := hcut
        have HI5 := hide I5
        clear I5 HI4
        go_wp2_with fail
        exact ret_cells2 (c1 := FP) (c2 := NP) Tryz.results58 rfl rfl (unhide HI5).two (unhide HI5).three Tryz.underlying125 rfl (by rw [gF.1]; exact infoFf) Tryz.underlying111 rfl (by rw [gN.1]; exact infoRs) rfl ⟨by rw [← unhide HP, ← unhide HN, ← unhide HFP, ← unhide HNP, unhide HK, unhide HC]; show Ending.returned (.tuple #[.agg FP, .agg NP, .bool G]) = _; rw [unhide HG]; rfl, (unhide HI5).below⟩

set_option maxRecDepth 100000 in
set_option maxHeartbeats 8000000 in
theorem made_2 (x : Rc) (c : Rx) (l : List UInt8) (w : World) (hc : c.ok) (hr : x.src = c.src ∧ x.dst = c.dst ∧ x.port = c.port) (h : Shape l) (hk : byteN l 0 / 64 = 2) (hl : l.length ≤ 1000) :
    Calls Tryz.prog 58 #[.agg x.cells, .string (bs l)] w fun e w' => MadeIs w c l e w' := by
  obtain ⟨m1, m2, m3⟩ := made_full hc h hk
  have hle : 13 ≤ l.length := by have := h.least; rw [hk] at this; exact this
  have kd : (shapeF l).kind = 2 := (shapeF_parts l).1.trans hk
  have s0 : 0 < (bs l).size := by rw [bs_size]; omega
  have b0 := byte_at l 0 (by omega) s0
  have l0 := byteN_lt l 0
  obtain ⟨B, hB⟩ : ∃ B, B = byteN l 0 := ⟨_, rfl⟩
  rw [← hB] at b0 l0 hk
  have d1 : (B : Int).tdiv 64 = 2 := by rw [Int.tdiv_eq_ediv_of_nonneg (by omega)]; omega
  have d2 : (B : Int) / 64 = 2 := by omega
  obtain ⟨P, hP⟩ : ∃ P, P = madeN c (shapeF l) := ⟨_, rfl⟩
  obtain ⟨n, hn⟩ : ∃ n, n = (followN c (shapeF l)).st := ⟨_, rfl⟩
  have hPok : P.ok := by rw [hP]; exact madeN_ok hc (readF_ok (readF_shape h)).1
  rw [← hP] at m1 m2
  rw [← hn] at m2
  have HP := hide hP
  have HN := hide hn
  have HM1 := hide m1
  have HM2 := hide m2
  have HM3 := hide m3
  have HK := hide kd
  have HPO := hide hPok
  obtain ⟨X, hX⟩ : ∃ X, X = x.cells := ⟨_, rfl⟩
  have x1 : X[1]? = some (.int .u32 (x.src : Int)) := by rw [hX]; rfl
  have x2 : X[2]? = some (.int .u32 (x.dst : Int)) := by rw [hX]; rfl
  have x3 : X[3]? = some (.int .u16 (x.port : Int)) := by rw [hX]; rfl
  rw [← hX]
  obtain ⟨ZF, hZF⟩ : ∃ ZF : Array Value, ZF = zeroP.flat := ⟨_, rfl⟩
  have zvF : ∀ w, (zeroValue 125).run Tryz.prog w = .ok (.agg ZF) w := by rw [hZF]; intro w; exact Tryz.zeroValue125 w
  obtain ⟨Z5, hZ5⟩ : ∃ Z5 : Array Value, Z5 = St.zero.flat := ⟨_, rfl⟩
  have zv5 : ∀ w, (zeroValue 111).run Tryz.prog w = .ok (.agg Z5) w := by rw [hZ5]; intro w; exact Tryz.zeroValue111 w
  have HZF := hide hZF
  have HZ5 := hide hZ5
  obtain ⟨FP, hFP⟩ : ∃ FP, FP = P.flat := ⟨_, rfl⟩
  obtain ⟨NP, hNP⟩ : ∃ NP, NP = n.flat := ⟨_, rfl⟩
  have gF : GoodFf FP := by rw [hFP]; exact Pk.goodFf P
  have gN : GoodRs NP := by rw [hNP]; exact St.goodRs n
  have HFP := hide hFP
  have HNP := hide hNP
  have HI0 := hide (InM.start w X ZF Z5)
  have HA : ∀ w : World, Calls Tryz.prog 94 #[.int .i64 2] w fun e w' => e = .returned (.int .i64 13) ∧ w' = w := fun w => ahead_any 2 w (by omega)
  have HA' := hide HA
  have HRR := hide hr
  clear hr hX hZF hZ5 hP hn hPok m1 m2 m3 kd hFP hNP hB HA hk h hc
  go_enter Tryz.func58, Tryz.ntmps58
  go_upto_region 9 with ((go_at_call 94; refine (unhide HA' _).mono ?_; rintro e w1 ⟨rfl, h1⟩; have h1 := h1.symm; subst h1))
  have eW : (((w.alloc (.cells X 109)).alloc (.cells ZF 125)).alloc (.cells Z5 111)).heap.size = w.heap.size + 1 + 1 + 1 := by simp
  have RB2 := heap_alloc_new (((w.alloc (.cells X 109)).alloc (.cells ZF 125)).alloc (.cells Z5 111)) (.cells #[.int .u32 (x.src : Int), .int .u32 (x.dst : Int), .int .u16 (x.port : Int)] 39)
  rw [eW] at RB2
  have I2 := (unhide HI0).call ((Below.refl _ _).alloc (Nat.le_refl _) (.cells #[.int .u32 (x.src : Int), .int .u32 (x.dst : Int), .int .u16 (x.port : Int)] 39))
  have HPW := hide (show P = withP x.src x.dst x.port ((l.drop 1).take 9) (l.drop 13) by rw [unhide HM1, (unhide HRR).1, (unhide HRR).2.1, (unhide HRR).2.2])
  clear HI0 eW HM1 x1 x2 x3
  generalize (((w.alloc (.cells X 109)).alloc (.cells ZF 125)).alloc (.cells Z5 111)).alloc (.cells #[.int .u32 (x.src : Int), .int .u32 (x.dst : Int), .int .u16 (x.port : Int)] 39) = w2 at RB2 I2 ⊢
  generalize w.heap.size + 1 + 1 + 1 = gr at RB2 ⊢
  have r0 : w2.cell? ⟨gr, 0, none⟩ = some (.int .u32 (x.src : Int)) := block_cell RB2 0
  have r1 : w2.cell? ⟨gr, 1, none⟩ = some (.int .u32 (x.dst : Int)) := block_cell RB2 1
  have r2 : w2.cell? ⟨gr, 2, none⟩ = some (.int .u16 (x.port : Int)) := block_cell RB2 2
  have r0d : w2.drew.cell? ⟨gr, 0, none⟩ = some (.int .u32 (x.src : Int)) := r0
  have r1d : w2.drew.cell? ⟨gr, 1, none⟩ = some (.int .u32 (x.dst : Int)) := r1
  have r2d : w2.drew.cell? ⟨gr, 2, none⟩ = some (.int .u16 (x.port : Int)) := r2
  have hgr : gr < w2.heap.size := block_lt RB2
  have t9 : ((l.drop 1).take 9).length = 9 := by rw [List.length_take, List.length_drop]; omega
  have HI2 := hide I2
  clear RB2 I2
  obtain ⟨U, hU⟩ : ∃ U, U = l.drop 1 := ⟨_, rfl⟩
  have hUl : U.length = l.length - 1 := by rw [hU, List.length_drop]
  rw [← hU] at t9 HPW
  rw [show l.tail = U by rw [hU, List.drop_one]]
  have HU := hide hU
  clear hU
  go_cut [11] (fun v wx => ∃ gf, v = .pointer (some ⟨gf, 0, none⟩) ∧ InMf w X ZF Z5 gf FP wx)
  case first =>
    have gA : ∀ w : World, FfTo (w.alloc (.cells ZF 125)) w.heap.size := fun w => ⟨_, _, heap_alloc_new w _, by rw [unhide HZF]; rfl⟩
    go_region_with ((go_at_call 96; refine (with_any x.src x.dst x.port _ _ _ t9).mono ?_; rintro e w5 ⟨rfl, hbel⟩; rw [← unhide HPW, ← unhide HFP]; first | (have HT5 := hide (InMf.call (InMf.new (unhide HI2).drew ZF) hbel); have gz : FfTo w5 w2.heap.size := ⟨_, _, (unhide HT5).fl, by rw [unhide HZF]; rfl⟩; clear hbel) | (have HI5 := hide (InM.call (unhide HI2).drew hbel); clear hbel)))
    all_goals
      first
        | (have HF := hide ((unhide HT5).put FP); go_wp2_with fail; go_meet; case rel => exact ⟨_, rfl, unhide HF⟩)
        | (have HF := hide ((InMf.new (unhide HI5) ZF).put FP); go_wp2_with fail; go_meet; case rel => exact ⟨_, rfl, unhide HF⟩)
  case rest =>
    obtain ⟨gf, rfl, I3⟩ := hcut
    clear HI2 r0 r1 r2 r0d r1d r2d
    obtain ⟨sd, hsd⟩ : ∃ sd, sd = numOf ((U.take 11).drop 9) := ⟨_, rfl⟩
    have hsd2 : sd < 65536 := by rw [hsd]; exact numOf_lt' 2 (by simp; omega)
    have hnum : (bs ((U.take 11).drop 9)).size ≤ 7 := by rw [bs_size]; simp; omega
    have hbl : (bs ((U.take 11).drop 9)).data.toList = (U.take 11).drop 9 := bs_list _
    have HSD := hide hsd
    have HM2' := hide (show n = stateN P sd by rw [unhide HM2, hsd, unhide HU])
    have u1 : ∀ W : World, W.heap[gf]? = some (.cells FP 125 (0, 0)) → FfIn W gf ∧ ffOf W gf = FP := fun W hW => ⟨⟨_, _, _, hW, gF.1⟩, by unfold ffOf; rw [hW]⟩
    have y1 : FfIn wc.drew gf := (u1 _ I3.fl).1
    have y2 : ffOf wc.drew gf = FP := (u1 _ I3.fl).2
    have y1a : ∀ O, FfIn (wc.drew.alloc O) gf := fun O => (u1 _ (block_alloc (show wc.drew.heap[gf]? = _ from I3.fl) O)).1
    have y2a : ∀ O, ffOf (wc.drew.alloc O) gf = FP := fun O => (u1 _ (block_alloc (show wc.drew.heap[gf]? = _ from I3.fl) O)).2
    have y1b : ∀ O, FfIn (wc.alloc O).drew gf := fun O => (u1 _ (show (wc.alloc O).drew.heap[gf]? = _ from block_alloc I3.fl O)).1
    have y2b : ∀ O, ffOf (wc.alloc O).drew gf = FP := fun O => (u1 _ (show (wc.alloc O).drew.heap[gf]? = _ from block_alloc I3.fl O)).2
    have HI3 := hide I3
    clear I3 hsd HM2 u1
    go_upto_region 10 with fail
    go_cut [12] (fun v wx => ∃ gn, v = .pointer (some ⟨gn, 0, none⟩) ∧ InMn w X ZF Z5 gf FP gn NP wx)
    case first =>
      have gA : ∀ w : World, RsIn (w.alloc (.cells Z5 111)) w.heap.size := fun w => ⟨_, _, heap_alloc_new w _, by rw [unhide HZ5]; rfl⟩
      go_region_with ((first
        | (go_at_call 97; refine (number_any _ _ hnum).mono ?_; rintro e w5 ⟨rfl, h5⟩; have h5 := h5.symm; subst h5; rw [hbl, ← unhide HSD])
        | (go_at_call 81; rw [unhide HFP]; refine (rstateOf_any P sd _ (unhide HPO) hsd2).mono ?_; rintro e w6 ⟨rfl, hbel⟩; rw [← unhide HFP, ← unhide HM2', ← unhide HNP]; first | (have HT6 := hide (InMn.call (InMn.new (unhide HI3).drew Z5) hbel); have gz : RsIn w6 wc.heap.size := ⟨_, _, (unhide HT6).st, by rw [unhide HZ5]; rfl⟩; clear hbel) | (have HI6 := hide (InMf.call (unhide HI3).drew hbel); clear hbel))))
      all_goals
        first
          | (have HF := hide ((unhide HT6).put NP); go_wp2_with fail; go_meet; case rel => exact ⟨_, rfl, unhide HF⟩)
          | (have HF := hide ((InMn.new (unhide HI6) Z5).put NP); go_wp2_with fail; go_meet; case rel => exact ⟨_, rfl, unhide HF⟩)
    case rest =>
      obtain ⟨gn, rfl, I4⟩ := hcut
      clear y1 y2 y1a y2a y1b y2b HI3
      have sU : 11 < (bs U).size := by rw [bs_size]; omega
      have bU := byte_at U 11 (by omega) sU
      have lU := byteN_lt U 11
      obtain ⟨C, hC⟩ : ∃ C, C = byteN U 11 := ⟨_, rfl⟩
      rw [← hC] at bU lU
      have HC := hide (show (shapeF l).chk = C by rw [unhide HM3, hC, unhide HU, byteN_drop])
      have HI4 := hide I4
      clear hC I4
      go_upto_region 11 with fail
      obtain ⟨G, hG⟩ : ∃ G : Bool, G = decide (chk 8 P = C) := ⟨_, rfl⟩
      have HG := hide hG
      clear hG
      have hzF : ZF.size = 8 := by rw [unhide HZF]; rfl
      have hz5 : Z5.size = 5 := by rw [unhide HZ5]; rfl
      have HzF := hide hzF
      have Hz5 := hide hz5
      clear hzF hz5
      go_cut [6] (fun v wx => v = .bool G ∧ InM w X FP NP wx)
      case first =>
        have HQ := hide (unhide HI4).drew
        go_region_held3 (fun w' => FfIn w' gf ∧ ffOf w' gf = FP ∧ RsRd w' gn ∧ ffOf w' gn = NP ∧ FfTo w' (w.heap.size + 1) ∧ RsIn w' (w.heap.size + 1 + 1) ∧ InMo w X gf FP gn NP w')
          ((first
            | (exact InMo.out gF.1 gN.1 ⟨_, _, unhide HzF, unhide Hz5, (unhide HI4).drew⟩)
            | (exact InMo.out gF.1 gN.1 ⟨_, _, unhide HzF, unhide Hz5, unhide (by assumption : Hid (InMn w X ZF Z5 gf FP gn NP _))⟩)
            | (exact InMo.out gF.1 gN.1 ⟨_, _, gF.1, unhide Hz5, ((unhide (by assumption : Hid (InMn w X ZF Z5 gf FP gn NP _))).done FP NP).1⟩)
            | (exact InMo.out gF.1 gN.1 ⟨_, _, unhide HzF, gN.1, ((unhide (by assumption : Hid (InMn w X ZF Z5 gf FP gn NP _))).done FP NP).2⟩)
            | (exact InMo.out gF.1 gN.1 ⟨_, _, gF.1, gN.1, ((((unhide (by assumption : Hid (InMn w X ZF Z5 gf FP gn NP _))).done FP NP).1).done FP NP).2⟩)
            | (exact InMo.out gF.1 gN.1 ⟨_, _, gF.1, gN.1, ((((unhide (by assumption : Hid (InMn w X ZF Z5 gf FP gn NP _))).done FP NP).2).done FP NP).1⟩)))
          ((first
            | (go_at_call 86; rw [unhide HFP]; refine (header_any P _ (unhide HPO)).mono ?_; rintro e w7 ⟨rfl, hbel⟩; rw [← unhide HFP]; have HQ7 := hide (InMn.call (unhide (by assumption : Hid (InMn w X ZF Z5 gf FP gn NP _))) hbel))
            | (go_at_call 87; refine (rchk8 P _).mono ?_; rintro e w8 ⟨rfl, hbel⟩; have HQ8 := hide (InMn.call (unhide (by assumption : Hid (InMn w X ZF Z5 gf FP gn NP _))) hbel))))
        all_goals go_split_ands
        all_goals go_wp2_with fail
        all_goals go_meet
        all_goals (case rel => exact ⟨by rw [unhide HG, ← chk_same (chk 8 P) C lU], ((unhide (by assumption : Hid (InMn w X ZF Z5 gf FP gn NP w8))).all.all.putF FP).putN NP⟩)
      case rest =>
        obtain ⟨rfl, I5⟩ := hcut
        have HI5 := hide I5
        clear I5 HI4
        go_wp2_with fail
        exact ret_cells2 (c1 := FP) (c2 := NP) Tryz.results58 rfl rfl (unhide HI5).two (unhide HI5).three Tryz.underlying125 rfl (by rw [gF.1]; exact infoFf) Tryz.underlying111 rfl (by rw [gN.1]; exact infoRs) rfl ⟨by rw [← unhide HP, ← unhide HN, ← unhide HFP, ← unhide HNP, unhide HK, unhide HC]; show Ending.returned (.tuple #[.agg FP, .agg NP, .bool G]) = _; rw [unhide HG]; rfl, (unhide HI5).below⟩

end Go.Proofs.YtgpojbgjfibblaaGreat.texts

namespace Go.Proofs.YtgpojbgjfibblaaGreat.texts
open Go.RowKit
set_option linter.unusedVariables false
attribute [local go_sem ↓] Go.wp_at_zero Go.wp_at_succ
attribute [local go_sem] bs_size be_length bs_append List.length_append bs_extract bs_list

/-- the load of a state, in the midst of a block -/
def rsOf (w : World) (g o : Nat) : Array Value := match w.heap[g]? with | some (.cells c _ _) => ((c.toList.drop o).take 5).toArray | _ => #[]
def RsMid (w : World) (g o : Nat) : Prop := ∃ c t fr, w.heap[g]? = some (.cells c t fr) ∧ o + 5 ≤ c.size
def loadRm (v : Value) : Sem Value := Instr.loadAt 111 v
theorem loadRm_eq (v : Value) : Instr.loadAt 111 v = loadRm v := rfl
theorem run_loadRm (w : World) (g o : Nat) (h : RsMid w g o) : (loadRm (.pointer (some ⟨g, o, none⟩))).run Tryz.prog w = .ok (.agg (rsOf w g o)) w := by
  obtain ⟨c, t, fr, h1, h2⟩ := h
  have := run_loadAt_mid (P := Tryz.prog) w g o 111 _ _ (World.rangeAt_of_block h1 o 5) Tryz.underlying111 rfl (by rw [infoRs]; simp; omega)
  simpa [rsOf, h1, loadRm] using this
theorem rsOf_whole {w : World} {g : Nat} {S : Array Value} {t : TypeId} {fr : Nat × Nat} (h : w.heap[g]? = some (.cells S t fr)) (hS : S.size = 5) : RsMid w g 0 ∧ rsOf w g 0 = S := by
  refine ⟨⟨_, _, _, h, by omega⟩, ?_⟩
  unfold rsOf
  rw [h]
  simp only [List.drop_zero]
  rw [List.take_of_length_le (by rw [Array.length_toList]; omega)]
theorem rsOf_own {w : World} {B : Nat} {v : Value} {s : St} (h : w.ownsRow B 111 5 v 1 (scells [s])) : ∃ g cap, v = .slice (some ⟨g, 0, none⟩) 1 cap ∧ g < w.heap.size ∧ ∀ w' : World, w'.heap[g]? = w.heap[g]? → RsMid w' g 0 ∧ rsOf w' g 0 = s.flat := by
  rcases h.2 with ⟨_, h0⟩ | ⟨g, cap, cur, rfl, _, hh, hn, _, hs, ht⟩
  · omega
  · refine ⟨g, cap, rfl, block_lt hh, fun w' hw => ?_⟩
    rw [hh] at hw
    refine ⟨⟨_, _, _, hw, by omega⟩, ?_⟩
    unfold rsOf
    rw [hw]
    simp only [List.drop_zero]
    have e : cur.toList.take 5 = s.flat.toList := by
      rw [Nat.one_mul] at ht
      rw [ht]
      simp [scells]
    rw [e]
attribute [local go_sem ↓] storeFf_eq loadFf_eq loadRm_eq storeRs_eq
attribute [local go_sem] run_storeFf run_loadFf run_loadRm run_storeRs
theorem goodFf_lit (a b c d e f g : Int) (s : ByteArray) : GoodFf #[.int .u32 a, .int .u32 b, .int .u16 c, .int .i64 d, .int .i64 e, .int .i64 f, .int .i64 g, .string s] := ⟨rfl, Array.all_eq_true_iff_forall_mem.2 (fun v hv => by
  simp only [List.mem_toArray, List.mem_cons, List.not_mem_nil, or_false] at hv
  rcases hv with e | e | e | e | e | e | e | e <;> (subst e; rfl))⟩
attribute [local go_sem] goodFf_lit

/-- the state that a frame turns, in a block of its own -/
structure InMs (w : World) (X F N : Array Value) (gn : Nat) (S : Array Value) (w1 : World) : Prop where
  all : InM w X F N w1
  st : w1.heap[gn]? = some (.cells S 111 (0, 0))
  up : w.heap.size + 1 + 1 < gn
theorem InMs.call {w w1 w2 : World} {X F N : Array Value} {gn : Nat} {S : Array Value} (h : InMs w X F N gn S w1) (hb : Below w1.heap.size w1 w2) : InMs w X F N gn S w2 := ⟨h.all.call hb, block_keep h.st hb, h.up⟩
theorem InMs.drew {w w1 : World} {X F N : Array Value} {gn : Nat} {S : Array Value} (h : InMs w X F N gn S w1) : InMs w X F N gn S w1.drew := ⟨h.all.drew, h.st, h.up⟩
theorem InMs.cell {w w1 : World} {X F N : Array Value} {gn : Nat} {S S' : Array Value} (h : InMs w X F N gn S w1) (j : Nat) (v : Value) (hS : S.setIfInBounds j v = S') : InMs w X F N gn S' (w1.setCell ⟨gn, j, none⟩ v) := by
  rw [setCell_eq_setRow w1 gn j _ _ _ v h.st, hS]
  exact ⟨h.all.put h.up S', setRow_heap _ _ _ _ _ _ h.st, h.up⟩
theorem InMs.flat {w w1 : World} {X F N : Array Value} {gn : Nat} {S : Array Value} (h : InMs w X F N gn S w1) (P : Array Value) : InMn w X F N w1.heap.size P gn S (w1.alloc (.cells P 125)) :=
  have h1 := block_lt h.st
  have hb : Below w1.heap.size w1 (w1.alloc (.cells P 125)) := (Below.refl _ _).alloc (Nat.le_refl _) _
  ⟨⟨h.all.call hb, heap_alloc_new w1 _, block_lt h.all.three⟩, block_keep h.st hb, h.up, by omega⟩
theorem InMs.outC {w w1 : World} {X F N : Array Value} {gn : Nat} {S : Array Value} {x : Rc} {n : St} (h : InMs w X F N gn S w1) (x1 : X[1]? = some (.int .u32 (x.src : Int))) (x2 : X[2]? = some (.int .u32 (x.dst : Int))) (x3 : X[3]? = some (.int .u16 (x.port : Int))) (hS : S = n.flat) :
    w1.cell? ⟨w.heap.size, 1, none⟩ = some (.int .u32 (x.src : Int)) ∧ w1.cell? ⟨w.heap.size, 2, none⟩ = some (.int .u32 (x.dst : Int)) ∧ w1.cell? ⟨w.heap.size, 3, none⟩ = some (.int .u16 (x.port : Int)) ∧ w1.cell? ⟨gn, 0, none⟩ = some (.int .i64 (n.seq : Int)) ∧ w1.cell? ⟨gn, 1, none⟩ = some (.int .i64 (n.stride : Int)) ∧ w1.cell? ⟨gn, 2, none⟩ = some (.int .i64 (n.offset : Int)) ∧ w1.cell? ⟨gn, 3, none⟩ = some (.int .i64 (n.lag : Int)) ∧ w1.cell? ⟨gn, 4, none⟩ = some (.int .i64 (n.flags : Int)) ∧ InMs w X F N gn S w1 := by
  refine ⟨(block_cell h.all.one 1).trans x1, (block_cell h.all.one 2).trans x2, (block_cell h.all.one 3).trans x3, ?_, ?_, ?_, ?_, ?_, h⟩
  all_goals (rw [block_cell h.st, hS]; rfl)
theorem InMo.out2 {w w1 : World} {X P S : Array Value} {gf gn : Nat} (hP : P.size = 8) (hS : S.size = 5) (h : InMo w X gf P gn S w1) : FfIn w1 gf ∧ ffOf w1 gf = P ∧ RsMid w1 gn 0 ∧ rsOf w1 gn 0 = S ∧ FfTo w1 (w.heap.size + 1) ∧ RsIn w1 (w.heap.size + 1 + 1) ∧ InMo w X gf P gn S w1 := by
  obtain ⟨a, b, c, d, e, f, g⟩ := InMo.out hP hS h
  obtain ⟨F, N, h1, h2, h3⟩ := h
  obtain ⟨r1, r2⟩ := rsOf_whole h3.st hS
  exact ⟨a, b, r1, r2, e, f, g⟩
theorem chk_same2 (a b : Nat) : ((a : Int) == (b : Int)) = decide (a = b) := by
  rw [Bool.eq_iff_iff, beq_iff_eq, decide_eq_true_eq]
  omega
theorem InMn.putFl {w w1 : World} {X F N : Array Value} {gf gn : Nat} {P S : Array Value} (h : InMn w X F N gf P gn S w1) (C : Array Value) : InMn w X F N gf C gn S (w1.setRow gf C) :=
  ⟨⟨h.all.all.put h.all.up C, setRow_heap _ _ _ _ _ _ h.all.fl, h.all.up⟩, by rw [setRow_other _ _ _ _ h.ne]; exact h.st, h.up, h.ne⟩

set_option maxRecDepth 100000 in
set_option maxHeartbeats 8000000 in
theorem made_0 (x : Rc) (c : Rx) (l : List UInt8) (B0 : Nat) (w : World) (hc : c.ok) (hr : x.src = c.src ∧ x.dst = c.dst ∧ x.port = c.port) (hs : w.ownsRow B0 111 5 x.sv 1 (scells [c.st])) (h : Shape l) (hk : byteN l 0 / 64 = 0) (hl : l.length ≤ 1000) :
    Calls Tryz.prog 58 #[.agg x.cells, .string (bs l)] w fun e w' => MadeIs w c l e w' := by
  obtain ⟨m1, m2, m3⟩ := made_tiny (c := c) h hk
  have hle : 2 ≤ l.length := by have := h.least; rw [hk] at this; exact this
  have kd : (shapeF l).kind = 0 := (shapeF_parts l).1.trans hk
  have s0 : 0 < (bs l).size := by rw [bs_size]; omega
  have s1 : 1 < (bs l).size := by rw [bs_size]; omega
  have b0 := byte_at l 0 (by omega) s0
  have b1 := byte_at l 1 (by omega) s1
  have l0 := byteN_lt l 0
  have l1 := byteN_lt l 1
  obtain ⟨B, hB⟩ : ∃ B, B = byteN l 0 := ⟨_, rfl⟩
  obtain ⟨B1, hB1⟩ : ∃ B, B = byteN l 1 := ⟨_, rfl⟩
  rw [← hB] at b0 l0 hk
  rw [← hB1] at b1 l1 m1 m3
  have d1 : (B : Int).tdiv 64 = 0 := by rw [Int.tdiv_eq_ediv_of_nonneg (by omega)]; omega
  have d2 : (B : Int) / 64 = 0 := by omega
  obtain ⟨P, hP⟩ : ∃ P, P = madeN c (shapeF l) := ⟨_, rfl⟩
  obtain ⟨n, hn⟩ : ∃ n, n = (followN c (shapeF l)).st := ⟨_, rfl⟩
  have hPok : P.ok := by rw [hP]; exact madeN_ok hc (readF_ok (readF_shape h)).1
  have hnok : n.ok := by rw [hn]; exact (followN_ok hc (readF_ok (readF_shape h)).1).st
  rw [← hP, ← hn] at m2
  rw [← hn] at m1
  have HP := hide hP
  have HN := hide hn
  have HM1 := hide m1
  have HM2 := hide m2
  have HM3 := hide m3
  have HK := hide kd
  have HPO := hide hPok
  have HNO := hide hnok
  obtain ⟨X, hX⟩ : ∃ X, X = x.cells := ⟨_, rfl⟩
  obtain ⟨q, cap, hsv, hq, hqs⟩ := rsOf_own hs
  have x1 : X[1]? = some (.int .u32 (x.src : Int)) := by rw [hX]; rfl
  have x2 : X[2]? = some (.int .u32 (x.dst : Int)) := by rw [hX]; rfl
  have x3 : X[3]? = some (.int .u16 (x.port : Int)) := by rw [hX]; rfl
  have x5 : X[5]? = some (.slice (some ⟨q, 0, none⟩) 1 cap) := by rw [hX, ← hsv]; rfl
  rw [← hX]
  obtain ⟨ZF, hZF⟩ : ∃ ZF : Array Value, ZF = zeroP.flat := ⟨_, rfl⟩
  have zvF : ∀ w, (zeroValue 125).run Tryz.prog w = .ok (.agg ZF) w := by rw [hZF]; intro w; exact Tryz.zeroValue125 w
  obtain ⟨Z5, hZ5⟩ : ∃ Z5 : Array Value, Z5 = St.zero.flat := ⟨_, rfl⟩
  have zv5 : ∀ w, (zeroValue 111).run Tryz.prog w = .ok (.agg Z5) w := by rw [hZ5]; intro w; exact Tryz.zeroValue111 w
  have HZF := hide hZF
  have HZ5 := hide hZ5
  obtain ⟨FP, hFP⟩ : ∃ FP, FP = P.flat := ⟨_, rfl⟩
  obtain ⟨NP, hNP⟩ : ∃ NP, NP = n.flat := ⟨_, rfl⟩
  have gF : GoodFf FP := by rw [hFP]; exact Pk.goodFf P
  have gN : GoodRs NP := by rw [hNP]; exact St.goodRs n
  have HFP := hide hFP
  have HNP := hide hNP
  have hI0 := InM.start w X ZF Z5
  obtain ⟨S0, hS0⟩ : ∃ S0, S0 = c.st.flat := ⟨_, rfl⟩
  have g5 : (((w.alloc (.cells X 109)).alloc (.cells ZF 125)).alloc (.cells Z5 111)).heap[q]? = w.heap[q]? := hI0.below.block q hq
  have g1 := (hqs _ g5).1
  have g2 := (hqs _ g5).2
  rw [← hS0] at g2
  have gs5 := run_storeRs_new (((w.alloc (.cells X 109)).alloc (.cells ZF 125)).alloc (.cells Z5 111)) S0 Z5 (by rw [hS0]; rfl) (by rw [hS0]; exact St.flat_one _) (by rw [hZ5]; rfl)
  have eW : (((w.alloc (.cells X 109)).alloc (.cells ZF 125)).alloc (.cells Z5 111)).heap.size = w.heap.size + 1 + 1 + 1 := by simp
  rw [eW] at gs5
  have HI0 := hide hI0
  have HS0 := hide hS0
  have HRR := hide hr
  have HA : ∀ w : World, Calls Tryz.prog 94 #[.int .i64 0] w fun e w' => e = .returned (.int .i64 2) ∧ w' = w := fun w => ahead_any 0 w (by omega)
  have HA' := hide HA
  have HCK := hide hc
  have l00 := l0
  clear hX hZF hZ5 hP hn hPok hnok m1 m2 m3 kd hFP hNP hB hB1 HA hk h hc hI0 hS0 g5 hr hs hqs hsv
  go_enter Tryz.func58, Tryz.ntmps58
  go_upto_if 62 with ((go_at_call 94; refine (unhide HA' _).mono ?_; rintro e w1 ⟨rfl, h1⟩; have h1 := h1.symm; subst h1))
  have IS0 : InMs w X ZF Z5 (w.heap.size + 1 + 1 + 1) S0 ((((w.alloc (.cells X 109)).alloc (.cells ZF 125)).alloc (.cells Z5 111)).alloc (.cells S0 111)) := ⟨(unhide HI0).call ((Below.refl _ _).alloc (Nat.le_refl _) _), by have := heap_alloc_new (((w.alloc (.cells X 109)).alloc (.cells ZF 125)).alloc (.cells Z5 111)) (.cells S0 111); rw [eW] at this; exact this, by omega⟩
  clear HI0 eW gs5 g1 g2 zv5
  generalize (((w.alloc (.cells X 109)).alloc (.cells ZF 125)).alloc (.cells Z5 111)).alloc (.cells S0 111) = w2 at IS0 ⊢
  generalize w.heap.size + 1 + 1 + 1 = gn at IS0 ⊢
  obtain ⟨C, hC⟩ : ∃ C, C = (shapeF l).chk := ⟨_, rfl⟩
  have HC := hide hC
  have hC2 : C = B1 / 2 % 8 := by rw [hC]; exact unhide HM3
  have HIS := hide IS0
  clear hC
  go_cut [14, 15] (fun tv wv wx => tv = .int .i64 (C : Nat) ∧ wv = .int .i64 3 ∧ InMs w X ZF Z5 gn NP wx)
  case first =>
    have k0 : w2.cell? ⟨gn, 0, none⟩ = some (.int .i64 (c.st.seq : Int)) := by rw [block_cell IS0.st, unhide HS0]; rfl
    have k0d : w2.drew.cell? ⟨gn, 0, none⟩ = some (.int .i64 (c.st.seq : Int)) := k0
    have f0 := block_free IS0.st 0
    have f0d : w2.drew.frozen? ⟨gn, 0, none⟩ = false := f0
    obtain ⟨D, hD⟩ : ∃ D, D = B1 / 16 := ⟨_, rfl⟩
    obtain ⟨E, hE⟩ : ∃ E, E = B1 / 2 := ⟨_, rfl⟩
    have wB : IntKind.i64.wrap (B1 : Int) = (B1 : Int) := by rw [IntKind.wrap_i64]; omega
    have q1 : (B1 : Int).tdiv 16 = (D : Int) := by rw [hD, Int.tdiv_eq_ediv_of_nonneg (by omega)]; omega
    have w16 : IntKind.i64.wrap (D : Int) = (D : Int) := by rw [IntKind.wrap_i64]; omega
    have q2 : (B1 : Int) / 16 = (D : Int) := by rw [hD]; omega
    have q3 : (B1 : Int).tdiv 2 = (E : Int) := by rw [hE, Int.tdiv_eq_ediv_of_nonneg (by omega)]; omega
    have q3' : (B1 : Int) / 2 = (E : Int) := by rw [hE]; omega
    have q4 : (E : Int).tmod 8 = (C : Int) := by rw [hC2, hE, Int.tmod_eq_emod_of_nonneg (by omega)]; omega
    have q5 : (E : Int) % 8 = (C : Int) := by rw [hC2, hE]; omega
    have sq := (unhide HCK).st.seq
    have bb : (D : Int) < 16 := by omega
    have HLow := hide (show plain.lowV (Int.toNat 16) (Int.toNat 4) (c.st.seq : Int) 1 (D : Int) = (n.seq : Int) by
      rw [unhide HM1, hD]
      show _ = ((seqAfterN c.st.seq 4 (B1 / 16) : Nat) : Int)
      rw [seqAfterN_eq]
      exact (bits.lowR_good (wd := 16) (k := 4) (by decide) (by show ((B1 / 16 : Nat) : Int) < 16; omega)).symm)
    clear hD hE
    have HX := hide (fun w' (hw : InMs w X ZF Z5 gn S0 w') => hw.cell (S' := NP) 0 (.int .i64 (n.seq : Int)) (by rw [unhide HS0, unhide HNP, unhide HM1]; rfl))
    clear IS0 hC2
    go_wp2_with fail
    go_region_with ((go_at_call 98; refine (bits.rlow_any _ _ _ _ _ _ (by omega) (by omega) (by omega) (by omega) (by omega) (by omega) (by omega) (by omega) (by show _ < (16 : Int); omega)).mono ?_; rintro e w5 ⟨rfl, h5⟩; have h5 := h5.symm; subst h5; rw [unhide HLow]))
    all_goals
      have HI2 := hide (unhide HX _ (unhide HIS).drew)
      go_wp2_with fail
      go_meet
      case rel => exact ⟨rfl, rfl, unhide HI2⟩
  case rest =>
    obtain ⟨rfl, rfl, I3⟩ := hcut
    clear HIS IS0 hC2
    have HI3 := hide I3
    clear I3
    go_upto_region 23 with fail
    obtain ⟨n1, n2, n3, n4, n5⟩ := unhide HNO
    have hp1 : (0 : Int) ≤ (n.stride : Int) * (n.seq : Int) := Int.mul_nonneg (by omega) (by omega)
    have hp2 : (n.stride : Int) * (n.seq : Int) ≤ 4294836225 := by
      have : n.stride * n.seq ≤ 65535 * 65535 := Nat.mul_le_mul (by omega) (by omega)
      have e : ((n.stride * n.seq : Nat) : Int) = (n.stride : Int) * (n.seq : Int) := Int.natCast_mul _ _
      omega
    have v1 : IntKind.i64.wrap ((n.stride : Int) * (n.seq : Int)) = (n.stride : Int) * (n.seq : Int) := by rw [IntKind.wrap_i64]; omega
    have v2 : IntKind.i64.wrap ((n.lag : Int) + (n.stride : Int) * (n.seq : Int)) = (n.lag : Int) + (n.stride : Int) * (n.seq : Int) := by rw [IntKind.wrap_i64]; omega
    have v3 : IntKind.i64.wrap ((n.offset : Int) + (n.seq : Int)) = (n.offset : Int) + (n.seq : Int) := by rw [IntKind.wrap_i64]; omega
    have X32 := hide (show ((n.lag : Int) + (n.stride : Int) * (n.seq : Int)) % bits.pw (Int.toNat 32) = (timeN n : Int) by
      show ((n.lag : Int) + (n.stride : Int) * (n.seq : Int)) % 4294967296 = _
      unfold timeN
      rw [← Int.natCast_mul]
      omega)
    have X16 := hide (show ((n.offset : Int) + (n.seq : Int)) % bits.pw (Int.toNat 16) = (((n.offset + n.seq) % 65536 : Nat) : Int) by
      show ((n.offset : Int) + (n.seq : Int)) % 65536 = _
      omega)
    obtain ⟨ID, hID⟩ : ∃ ID : Nat, ID = (n.offset + n.seq) % 65536 := ⟨_, rfl⟩
    rw [← hID] at X16
    have HFL := hide (show FP = #[.int .u32 (x.src : Int), .int .u32 (x.dst : Int), .int .u16 (x.port : Int), .int .i64 (n.seq : Int), .int .i64 (timeN n : Int), .int .i64 (ID : Int), .int .i64 (n.flags : Int), .string (bs (l.drop 2))] by
      rw [unhide HFP, unhide HM2, hID, (unhide HRR).1, (unhide HRR).2.1, (unhide HRR).2.2]
      rfl)
    obtain ⟨TM, hTM⟩ : ∃ TM, TM = timeN n := ⟨_, rfl⟩
    rw [← hTM] at X32 HFL
    clear hID hTM
    go_cut [16] (fun v wx => ∃ gf, v = .pointer (some ⟨gf, 0, none⟩) ∧ InMn w X ZF Z5 gf FP gn NP wx)
    case first =>
      have gA : ∀ w : World, FfTo (w.alloc (.cells #[.int .u32 0, .int .u32 0, .int .u16 0, .int .i64 0, .int .i64 0, .int .i64 0, .int .i64 0, .string ⟨#[]⟩] 125)) w.heap.size := fun w => ⟨_, _, heap_alloc_new w _, rfl⟩
      have gAd : ∀ w : World, FfTo (w.alloc (.cells #[.int .u32 0, .int .u32 0, .int .u16 0, .int .i64 0, .int .i64 0, .int .i64 0, .int .i64 0, .string ⟨#[]⟩] 125)).drew w.heap.size := fun w => gA w
      clear zvF
      have HQ := hide (unhide HI3).drew
      go_region_held3 (fun w' => w'.cell? ⟨w.heap.size, 1, none⟩ = some (.int .u32 (x.src : Int)) ∧ w'.cell? ⟨w.heap.size, 2, none⟩ = some (.int .u32 (x.dst : Int)) ∧ w'.cell? ⟨w.heap.size, 3, none⟩ = some (.int .u16 (x.port : Int)) ∧ w'.cell? ⟨gn, 0, none⟩ = some (.int .i64 (n.seq : Int)) ∧ w'.cell? ⟨gn, 1, none⟩ = some (.int .i64 (n.stride : Int)) ∧ w'.cell? ⟨gn, 2, none⟩ = some (.int .i64 (n.offset : Int)) ∧ w'.cell? ⟨gn, 3, none⟩ = some (.int .i64 (n.lag : Int)) ∧ w'.cell? ⟨gn, 4, none⟩ = some (.int .i64 (n.flags : Int)) ∧ InMs w X ZF Z5 gn NP w')
        ((first
          | (exact (unhide HI3).drew.outC x1 x2 x3 (unhide HNP))
          | (exact (InMs.call (unhide HI3).drew ((Below.refl _ _).alloc (Nat.le_refl _) _)).outC x1 x2 x3 (unhide HNP))
          | (exact (⟨((InMs.flat (unhide HI3).drew _).putFl _).all.all, ((InMs.flat (unhide HI3).drew _).putFl _).st, (unhide HI3).up⟩ : InMs w X ZF Z5 gn NP _).outC x1 x2 x3 (unhide HNP))))
        ((go_at_call 82; refine (bits.mod_any _ _ _ (by omega) (by omega) (by omega) (by omega)).mono ?_; rintro e w5 ⟨rfl, h5⟩; have h5 := h5.symm; subst h5; first | rw [unhide X32] | rw [unhide X16]))
      all_goals go_split_ands
      all_goals
        have HF := hide ((InMs.flat (unhide HI3).drew #[.int .u32 0, .int .u32 0, .int .u16 0, .int .i64 0, .int .i64 0, .int .i64 0, .int .i64 0, .string ⟨#[]⟩]).putFl #[.int .u32 (x.src : Int), .int .u32 (x.dst : Int), .int .u16 (x.port : Int), .int .i64 (n.seq : Int), .int .i64 (TM : Int), .int .i64 (ID : Int), .int .i64 (n.flags : Int), .string (bs (l.drop 2))])
        go_wp2_with fail
        go_meet
        case rel => exact ⟨_, rfl, by rw [unhide HFL]; exact unhide HF⟩
    case rest =>
      obtain ⟨gf, rfl, I4⟩ := hcut
      have HI4 := hide I4
      clear I4 HI3
      go_upto_region 24 with fail
      obtain ⟨G, hG⟩ : ∃ G : Bool, G = decide (chk 3 P = C) := ⟨_, rfl⟩
      have HG := hide hG
      clear hG
      have hzF : ZF.size = 8 := by rw [unhide HZF]; rfl
      have hz5 : Z5.size = 5 := by rw [unhide HZ5]; rfl
      have HzF := hide hzF
      have Hz5 := hide hz5
      clear hzF hz5
      go_cut [6] (fun v wx => v = .bool G ∧ InM w X FP NP wx)
      case first =>
        have HQ := hide (unhide HI4).drew
        go_region_held3 (fun w' => FfIn w' gf ∧ ffOf w' gf = FP ∧ RsMid w' gn 0 ∧ rsOf w' gn 0 = NP ∧ FfTo w' (w.heap.size + 1) ∧ RsIn w' (w.heap.size + 1 + 1) ∧ InMo w X gf FP gn NP w')
          ((first
            | (exact InMo.out2 gF.1 gN.1 ⟨_, _, unhide HzF, unhide Hz5, (unhide HI4).drew⟩)
            | (exact InMo.out2 gF.1 gN.1 ⟨_, _, unhide HzF, unhide Hz5, unhide (by assumption : Hid (InMn w X ZF Z5 gf FP gn NP _))⟩)
            | (exact InMo.out2 gF.1 gN.1 ⟨_, _, gF.1, unhide Hz5, ((unhide (by assumption : Hid (InMn w X ZF Z5 gf FP gn NP _))).done FP NP).1⟩)
            | (exact InMo.out2 gF.1 gN.1 ⟨_, _, unhide HzF, gN.1, ((unhide (by assumption : Hid (InMn w X ZF Z5 gf FP gn NP _))).done FP NP).2⟩)
            | (exact InMo.out2 gF.1 gN.1 ⟨_, _, gF.1, gN.1, ((((unhide (by assumption : Hid (InMn w X ZF Z5 gf FP gn NP _))).done FP NP).1).done FP NP).2⟩)
            | (exact InMo.out2 gF.1 gN.1 ⟨_, _, gF.1, gN.1, ((((unhide (by assumption : Hid (InMn w X ZF Z5 gf FP gn NP _))).done FP NP).2).done FP NP).1⟩)))
          ((first
            | (go_at_call 86; rw [unhide HFP]; refine (header_any P _ (unhide HPO)).mono ?_; rintro e w7 ⟨rfl, hbel⟩; rw [← unhide HFP]; have HQ7 := hide (InMn.call (unhide (by assumption : Hid (InMn w X ZF Z5 gf FP gn NP _))) hbel))
            | (go_at_call 87; refine (rchk3 P _).mono ?_; rintro e w8 ⟨rfl, hbel⟩; have HQ8 := hide (InMn.call (unhide (by assumption : Hid (InMn w X ZF Z5 gf FP gn NP _))) hbel))))
        all_goals go_split_ands
        all_goals go_wp2_with fail
        all_goals go_meet
        all_goals (case rel => exact ⟨by rw [unhide HG, ← chk_same2 (chk 3 P) C], ((unhide (by assumption : Hid (InMn w X ZF Z5 gf FP gn NP w8))).all.all.putF FP).putN NP⟩)
      case rest =>
        obtain ⟨rfl, I5⟩ := hcut
        have HI5 := hide I5
        clear I5 HI4
        go_wp2_with fail
        exact ret_cells2 (c1 := FP) (c2 := NP) Tryz.results58 rfl rfl (unhide HI5).two (unhide HI5).three Tryz.underlying125 rfl (by rw [gF.1]; exact infoFf) Tryz.underlying111 rfl (by rw [gN.1]; exact infoRs) rfl ⟨by rw [← unhide HP, ← unhide HN, ← unhide HFP, ← unhide HNP, unhide HK, ← unhide HC]; show Ending.returned (.tuple #[.agg FP, .agg NP, .bool G]) = _; rw [unhide HG]; rfl, (unhide HI5).below⟩

set_option maxRecDepth 100000 in
set_option maxHeartbeats 8000000 in
theorem made_1 (x : Rc) (c : Rx) (l : List UInt8) (B0 : Nat) (w : World) (hc : c.ok) (hr : x.src = c.src ∧ x.dst = c.dst ∧ x.port = c.port) (hs : w.ownsRow B0 111 5 x.sv 1 (scells [c.st])) (h : Shape l) (hk : byteN l 0 / 64 = 1) (hl : l.length ≤ 1000) :
    Calls Tryz.prog 58 #[.agg x.cells, .string (bs l)] w fun e w' => MadeIs w c l e w' := by
  obtain ⟨m1, m2, m3⟩ := made_short (c := c) h hk
  have hle : 5 ≤ l.length := by have := h.least; rw [hk] at this; exact this
  have kd : (shapeF l).kind = 1 := (shapeF_parts l).1.trans hk
  have s0 : 0 < (bs l).size := by rw [bs_size]; omega
  have s1 : 1 < (bs l).size := by rw [bs_size]; omega
  have s2 : 2 < (bs l).size := by rw [bs_size]; omega
  have s3 : 3 < (bs l).size := by rw [bs_size]; omega
  have s4 : 4 < (bs l).size := by rw [bs_size]; omega
  have b0 := byte_at l 0 (by omega) s0
  have b1 := byte_at l 1 (by omega) s1
  have b2 := byte_at l 2 (by omega) s2
  have b3 := byte_at l 3 (by omega) s3
  have b4 := byte_at l 4 (by omega) s4
  have l0 := byteN_lt l 0
  have l1 := byteN_lt l 1
  have l2 := byteN_lt l 2
  have l3 := byteN_lt l 3
  have l4 := byteN_lt l 4
  obtain ⟨B, hB⟩ : ∃ B, B = byteN l 0 := ⟨_, rfl⟩
  obtain ⟨B1, hB1⟩ : ∃ B, B = byteN l 1 := ⟨_, rfl⟩
  obtain ⟨B2, hB2⟩ : ∃ B, B = byteN l 2 := ⟨_, rfl⟩
  obtain ⟨B3, hB3⟩ : ∃ B, B = byteN l 3 := ⟨_, rfl⟩
  obtain ⟨B4, hB4⟩ : ∃ B, B = byteN l 4 := ⟨_, rfl⟩
  rw [← hB] at b0 l0 hk
  rw [← hB1] at b1 l1 m1
  rw [← hB2] at b2 l2 m1
  rw [← hB3] at b3 l3 m1
  rw [← hB4] at b4 l4 m3
  have d1 : (B : Int).tdiv 64 = 1 := by rw [Int.tdiv_eq_ediv_of_nonneg (by omega)]; omega
  have d2 : (B : Int) / 64 = 1 := by omega
  obtain ⟨P, hP⟩ : ∃ P, P = madeN c (shapeF l) := ⟨_, rfl⟩
  obtain ⟨n, hn⟩ : ∃ n, n = (followN c (shapeF l)).st := ⟨_, rfl⟩
  have hPok : P.ok := by rw [hP]; exact madeN_ok hc (readF_ok (readF_shape h)).1
  have hnok : n.ok := by rw [hn]; exact (followN_ok hc (readF_ok (readF_shape h)).1).st
  rw [← hP, ← hn] at m2
  rw [← hn] at m1
  have HP := hide hP
  have HN := hide hn
  have HM1 := hide m1
  have HM2 := hide m2
  have HM3 := hide m3
  have HK := hide kd
  have HPO := hide hPok
  have HNO := hide hnok
  obtain ⟨X, hX⟩ : ∃ X, X = x.cells := ⟨_, rfl⟩
  obtain ⟨q, cap, hsv, hq, hqs⟩ := rsOf_own hs
  have x1 : X[1]? = some (.int .u32 (x.src : Int)) := by rw [hX]; rfl
  have x2 : X[2]? = some (.int .u32 (x.dst : Int)) := by rw [hX]; rfl
  have x3 : X[3]? = some (.int .u16 (x.port : Int)) := by rw [hX]; rfl
  have x5 : X[5]? = some (.slice (some ⟨q, 0, none⟩) 1 cap) := by rw [hX, ← hsv]; rfl
  rw [← hX]
  obtain ⟨ZF, hZF⟩ : ∃ ZF : Array Value, ZF = zeroP.flat := ⟨_, rfl⟩
  have zvF : ∀ w, (zeroValue 125).run Tryz.prog w = .ok (.agg ZF) w := by rw [hZF]; intro w; exact Tryz.zeroValue125 w
  obtain ⟨Z5, hZ5⟩ : ∃ Z5 : Array Value, Z5 = St.zero.flat := ⟨_, rfl⟩
  have zv5 : ∀ w, (zeroValue 111).run Tryz.prog w = .ok (.agg Z5) w := by rw [hZ5]; intro w; exact Tryz.zeroValue111 w
  have HZF := hide hZF
  have HZ5 := hide hZ5
  obtain ⟨FP, hFP⟩ : ∃ FP, FP = P.flat := ⟨_, rfl⟩
  obtain ⟨NP, hNP⟩ : ∃ NP, NP = n.flat := ⟨_, rfl⟩
  have gF : GoodFf FP := by rw [hFP]; exact Pk.goodFf P
  have gN : GoodRs NP := by rw [hNP]; exact St.goodRs n
  have HFP := hide hFP
  have HNP := hide hNP
  have hI0 := InM.start w X ZF Z5
  obtain ⟨S0, hS0⟩ : ∃ S0, S0 = c.st.flat := ⟨_, rfl⟩
  have g5 : (((w.alloc (.cells X 109)).alloc (.cells ZF 125)).alloc (.cells Z5 111)).heap[q]? = w.heap[q]? := hI0.below.block q hq
  have g1 := (hqs _ g5).1
  have g2 := (hqs _ g5).2
  rw [← hS0] at g2
  have gs5 := run_storeRs_new (((w.alloc (.cells X 109)).alloc (.cells ZF 125)).alloc (.cells Z5 111)) S0 Z5 (by rw [hS0]; rfl) (by rw [hS0]; exact St.flat_one _) (by rw [hZ5]; rfl)
  have eW : (((w.alloc (.cells X 109)).alloc (.cells ZF 125)).alloc (.cells Z5 111)).heap.size = w.heap.size + 1 + 1 + 1 := by simp
  rw [eW] at gs5
  have HI0 := hide hI0
  have HS0 := hide hS0
  have HRR := hide hr
  have HA : ∀ w : World, Calls Tryz.prog 94 #[.int .i64 1] w fun e w' => e = .returned (.int .i64 5) ∧ w' = w := fun w => ahead_any 1 w (by omega)
  have HA' := hide HA
  have HCK := hide hc
  have l00 := l0
  clear hX hZF hZ5 hP hn hPok hnok m1 m2 m3 kd hFP hNP hB hB1 hB2 hB3 hB4 HA hk h hc hI0 hS0 g5 hr hs hqs hsv
  go_enter Tryz.func58, Tryz.ntmps58
  go_upto_if 62 with ((go_at_call 94; refine (unhide HA' _).mono ?_; rintro e w1 ⟨rfl, h1⟩; have h1 := h1.symm; subst h1))
  have IS0 : InMs w X ZF Z5 (w.heap.size + 1 + 1 + 1) S0 ((((w.alloc (.cells X 109)).alloc (.cells ZF 125)).alloc (.cells Z5 111)).alloc (.cells S0 111)) := ⟨(unhide HI0).call ((Below.refl _ _).alloc (Nat.le_refl _) _), by have := heap_alloc_new (((w.alloc (.cells X 109)).alloc (.cells ZF 125)).alloc (.cells Z5 111)) (.cells S0 111); rw [eW] at this; exact this, by omega⟩
  clear HI0 eW gs5 g1 g2 zv5
  generalize (((w.alloc (.cells X 109)).alloc (.cells ZF 125)).alloc (.cells Z5 111)).alloc (.cells S0 111) = w2 at IS0 ⊢
  generalize w.heap.size + 1 + 1 + 1 = gn at IS0 ⊢
  obtain ⟨C, hC⟩ : ∃ C, C = (shapeF l).chk := ⟨_, rfl⟩
  have HC := hide hC
  have hC2 : C = B4 := by rw [hC]; exact unhide HM3
  have HIS := hide IS0
  clear hC
  go_cut [14, 15] (fun tv wv wx => tv = .int .i64 (C : Nat) ∧ wv = .int .i64 7 ∧ InMs w X ZF Z5 gn NP wx)
  case first =>
    have wB1 : IntKind.i64.wrap (B1 : Int) = (B1 : Int) := by rw [IntKind.wrap_i64]; omega
    have wB2 : IntKind.i64.wrap (B2 : Int) = (B2 : Int) := by rw [IntKind.wrap_i64]; omega
    have wB3 : IntKind.i64.wrap (B3 : Int) = (B3 : Int) := by rw [IntKind.wrap_i64]; omega
    have sq := (unhide HCK).st.seq
    have so := (unhide HCK).st.offset
    have sl := (unhide HCK).st.lag
    have HL1 := hide (show plain.lowV (Int.toNat 16) (Int.toNat 8) (c.st.seq : Int) 1 (B1 : Int) = (n.seq : Int) by
      rw [unhide HM1]
      show _ = ((seqAfterN c.st.seq 8 B1 : Nat) : Int)
      rw [seqAfterN_eq]
      exact (bits.lowR_good (wd := 16) (k := 8) (by decide) (by show (B1 : Int) < 256; omega)).symm)
    have HL2 := hide (show plain.lowV (Int.toNat 16) (Int.toNat 8) (c.st.offset : Int) 128 (B2 : Int) = (n.offset : Int) by
      rw [unhide HM1]
      show _ = (((bits.lowR 16 8 c.st.offset 128 B2).toNat : Nat) : Int)
      have h1 := lowR16_bd 8 c.st.offset 128 B2
      rw [Int.toNat_of_nonneg h1.1]
      exact (bits.lowR_good (wd := 16) (k := 8) (by decide) (by show (B2 : Int) < 256; omega)).symm)
    have HL3 := hide (show plain.lowV (Int.toNat 32) (Int.toNat 8) (c.st.lag : Int) 128 (B3 : Int) = (n.lag : Int) by
      rw [unhide HM1]
      show _ = (((bits.lowR 32 8 c.st.lag 128 B3).toNat : Nat) : Int)
      have h1 := lowR32_bd 8 c.st.lag 128 B3
      rw [Int.toNat_of_nonneg h1.1]
      exact (bits.lowR_good (wd := 32) (k := 8) (by decide) (by show (B3 : Int) < 256; omega)).symm)
    obtain ⟨S1, hS1⟩ : ∃ S1, S1 = St.flat ⟨n.seq, c.st.stride, c.st.offset, c.st.lag, c.st.flags⟩ := ⟨_, rfl⟩
    obtain ⟨S2, hS2⟩ : ∃ S2, S2 = St.flat ⟨n.seq, c.st.stride, n.offset, c.st.lag, c.st.flags⟩ := ⟨_, rfl⟩
    have HX1 := hide (fun w' (hw : InMs w X ZF Z5 gn S0 w') => hw.cell (S' := S1) 0 (.int .i64 (n.seq : Int)) (by rw [unhide HS0, hS1]; rfl))
    have HX2 := hide (fun w' (hw : InMs w X ZF Z5 gn S1 w') => hw.cell (S' := S2) 2 (.int .i64 (n.offset : Int)) (by rw [hS1, hS2]; rfl))
    have HX3 := hide (fun w' (hw : InMs w X ZF Z5 gn S2 w') => hw.cell (S' := NP) 3 (.int .i64 (n.lag : Int)) (by rw [hS2, unhide HNP, unhide HM1]; rfl))
    have HS1 := hide hS1
    have HS2 := hide hS2
    have k0 : w2.cell? ⟨gn, 0, none⟩ = some (.int .i64 (c.st.seq : Int)) := by rw [block_cell IS0.st, unhide HS0]; rfl
    have k0d : w2.drew.cell? ⟨gn, 0, none⟩ = some (.int .i64 (c.st.seq : Int)) := k0
    have f0 := block_free IS0.st 0
    have f0d : w2.drew.frozen? ⟨gn, 0, none⟩ = false := f0
    clear IS0 hS1 hS2
    go_upto_region 18 with fail
    go_cut [7] (fun v wx => v = .int .i64 1 ∧ InMs w X ZF Z5 gn S1 wx)
    case first =>
      go_region_with ((go_at_call 98; refine (bits.rlow_any _ _ _ _ _ _ (by omega) (by omega) (by omega) (by omega) (by omega) (by omega) (by omega) (by omega) (by show _ < (256 : Int); omega)).mono ?_; rintro e w5 ⟨rfl, h5⟩; have h5 := h5.symm; subst h5; rw [unhide HL1]))
      all_goals
        have HI2 := hide (unhide HX1 _ (unhide HIS).drew)
        go_wp2_with fail
        go_meet
        case rel => exact ⟨rfl, unhide HI2⟩
    case rest =>
      obtain ⟨rfl, IA⟩ := hcut
      clear k0 k0d f0 f0d
      have k0 : wc.cell? ⟨gn, 2, none⟩ = some (.int .i64 (c.st.offset : Int)) := by rw [block_cell IA.st, unhide HS1]; rfl
      have k0d : wc.drew.cell? ⟨gn, 2, none⟩ = some (.int .i64 (c.st.offset : Int)) := k0
      have f0 := block_free IA.st 2
      have f0d : wc.drew.frozen? ⟨gn, 2, none⟩ = false := f0
      have HIA := hide IA
      clear IA
      go_upto_region 19 with fail
      go_cut [7] (fun v wx => v = .int .i64 1 ∧ InMs w X ZF Z5 gn S2 wx)
      case first =>
        go_region_with ((go_at_call 98; refine (bits.rlow_any _ _ _ _ _ _ (by omega) (by omega) (by omega) (by omega) (by omega) (by omega) (by omega) (by omega) (by show _ < (256 : Int); omega)).mono ?_; rintro e w5 ⟨rfl, h5⟩; have h5 := h5.symm; subst h5; rw [unhide HL2]))
        all_goals
          have HI2 := hide (unhide HX2 _ (unhide HIA).drew)
          go_wp2_with fail
          go_meet
          case rel => exact ⟨rfl, unhide HI2⟩
      case rest =>
        obtain ⟨rfl, IB⟩ := hcut
        clear k0 k0d f0 f0d HIA
        have k0 : wc.cell? ⟨gn, 3, none⟩ = some (.int .i64 (c.st.lag : Int)) := by rw [block_cell IB.st, unhide HS2]; rfl
        have k0d : wc.drew.cell? ⟨gn, 3, none⟩ = some (.int .i64 (c.st.lag : Int)) := k0
        have f0 := block_free IB.st 3
        have f0d : wc.drew.frozen? ⟨gn, 3, none⟩ = false := f0
        have HIB := hide IB
        clear IB
        go_upto_region 20 with fail
        go_cut [7] (fun v wx => v = .int .i64 1 ∧ InMs w X ZF Z5 gn NP wx)
        case first =>
          go_region_with ((go_at_call 98; refine (bits.rlow_any _ _ _ _ _ _ (by omega) (by omega) (by omega) (by omega) (by omega) (by omega) (by omega) (by omega) (by show _ < (256 : Int); omega)).mono ?_; rintro e w5 ⟨rfl, h5⟩; have h5 := h5.symm; subst h5; rw [unhide HL3]))
          all_goals
            have HI2 := hide (unhide HX3 _ (unhide HIB).drew)
            go_wp2_with fail
            go_meet
            case rel => exact ⟨rfl, unhide HI2⟩
        case rest =>
          obtain ⟨rfl, IC⟩ := hcut
          have HIC := hide IC
          clear IC HIB k0 k0d f0 f0d
          subst hC2
          go_wp2_with fail
          go_meet
          case rel => exact ⟨rfl, rfl, unhide HIC⟩
  case rest =>
    obtain ⟨rfl, rfl, I3⟩ := hcut
    clear HIS IS0 hC2
    have HI3 := hide I3
    clear I3
    go_upto_region 23 with fail
    obtain ⟨n1, n2, n3, n4, n5⟩ := unhide HNO
    have hp1 : (0 : Int) ≤ (n.stride : Int) * (n.seq : Int) := Int.mul_nonneg (by omega) (by omega)
    have hp2 : (n.stride : Int) * (n.seq : Int) ≤ 4294836225 := by
      have : n.stride * n.seq ≤ 65535 * 65535 := Nat.mul_le_mul (by omega) (by omega)
      have e : ((n.stride * n.seq : Nat) : Int) = (n.stride : Int) * (n.seq : Int) := Int.natCast_mul _ _
      omega
    have v1 : IntKind.i64.wrap ((n.stride : Int) * (n.seq : Int)) = (n.stride : Int) * (n.seq : Int) := by rw [IntKind.wrap_i64]; omega
    have v2 : IntKind.i64.wrap ((n.lag : Int) + (n.stride : Int) * (n.seq : Int)) = (n.lag : Int) + (n.stride : Int) * (n.seq : Int) := by rw [IntKind.wrap_i64]; omega
    have v3 : IntKind.i64.wrap ((n.offset : Int) + (n.seq : Int)) = (n.offset : Int) + (n.seq : Int) := by rw [IntKind.wrap_i64]; omega
    have X32 := hide (show ((n.lag : Int) + (n.stride : Int) * (n.seq : Int)) % bits.pw (Int.toNat 32) = (timeN n : Int) by
      show ((n.lag : Int) + (n.stride : Int) * (n.seq : Int)) % 4294967296 = _
      unfold timeN
      rw [← Int.natCast_mul]
      omega)
    have X16 := hide (show ((n.offset : Int) + (n.seq : Int)) % bits.pw (Int.toNat 16) = (((n.offset + n.seq) % 65536 : Nat) : Int) by
      show ((n.offset : Int) + (n.seq : Int)) % 65536 = _
      omega)
    obtain ⟨ID, hID⟩ : ∃ ID : Nat, ID = (n.offset + n.seq) % 65536 := ⟨_, rfl⟩
    rw [← hID] at X16
    have HFL := hide (show FP = #[.int .u32 (x.src : Int), .int .u32 (x.dst : Int), .int .u16 (x.port : Int), .int .i64 (n.seq : Int), .int .i64 (timeN n : Int), .int .i64 (ID : Int), .int .i64 (n.flags : Int), .string (bs (l.drop 5))] by
      rw [unhide HFP, unhide HM2, hID, (unhide HRR).1, (unhide HRR).2.1, (unhide HRR).2.2]
      rfl)
    obtain ⟨TM, hTM⟩ : ∃ TM, TM = timeN n := ⟨_, rfl⟩
    rw [← hTM] at X32 HFL
    clear hID hTM
    go_cut [16] (fun v wx => ∃ gf, v = .pointer (some ⟨gf, 0, none⟩) ∧ InMn w X ZF Z5 gf FP gn NP wx)
    case first =>
      have gA : ∀ w : World, FfTo (w.alloc (.cells #[.int .u32 0, .int .u32 0, .int .u16 0, .int .i64 0, .int .i64 0, .int .i64 0, .int .i64 0, .string ⟨#[]⟩] 125)) w.heap.size := fun w => ⟨_, _, heap_alloc_new w _, rfl⟩
      have gAd : ∀ w : World, FfTo (w.alloc (.cells #[.int .u32 0, .int .u32 0, .int .u16 0, .int .i64 0, .int .i64 0, .int .i64 0, .int .i64 0, .string ⟨#[]⟩] 125)).drew w.heap.size := fun w => gA w
      clear zvF
      have HQ := hide (unhide HI3).drew
      go_region_held3 (fun w' => w'.cell? ⟨w.heap.size, 1, none⟩ = some (.int .u32 (x.src : Int)) ∧ w'.cell? ⟨w.heap.size, 2, none⟩ = some (.int .u32 (x.dst : Int)) ∧ w'.cell? ⟨w.heap.size, 3, none⟩ = some (.int .u16 (x.port : Int)) ∧ w'.cell? ⟨gn, 0, none⟩ = some (.int .i64 (n.seq : Int)) ∧ w'.cell? ⟨gn, 1, none⟩ = some (.int .i64 (n.stride : Int)) ∧ w'.cell? ⟨gn, 2, none⟩ = some (.int .i64 (n.offset : Int)) ∧ w'.cell? ⟨gn, 3, none⟩ = some (.int .i64 (n.lag : Int)) ∧ w'.cell? ⟨gn, 4, none⟩ = some (.int .i64 (n.flags : Int)) ∧ InMs w X ZF Z5 gn NP w')
        ((first
          | (exact (unhide HI3).drew.outC x1 x2 x3 (unhide HNP))
          | (exact (InMs.call (unhide HI3).drew ((Below.refl _ _).alloc (Nat.le_refl _) _)).outC x1 x2 x3 (unhide HNP))
          | (exact (⟨((InMs.flat (unhide HI3).drew _).putFl _).all.all, ((InMs.flat (unhide HI3).drew _).putFl _).st, (unhide HI3).up⟩ : InMs w X ZF Z5 gn NP _).outC x1 x2 x3 (unhide HNP))))
        ((go_at_call 82; refine (bits.mod_any _ _ _ (by omega) (by omega) (by omega) (by omega)).mono ?_; rintro e w5 ⟨rfl, h5⟩; have h5 := h5.symm; subst h5; first | rw [unhide X32] | rw [unhide X16]))
      all_goals go_split_ands
      all_goals
        have HF := hide ((InMs.flat (unhide HI3).drew #[.int .u32 0, .int .u32 0, .int .u16 0, .int .i64 0, .int .i64 0, .int .i64 0, .int .i64 0, .string ⟨#[]⟩]).putFl #[.int .u32 (x.src : Int), .int .u32 (x.dst : Int), .int .u16 (x.port : Int), .int .i64 (n.seq : Int), .int .i64 (TM : Int), .int .i64 (ID : Int), .int .i64 (n.flags : Int), .string (bs (l.drop 5))])
        go_wp2_with fail
        go_meet
        case rel => exact ⟨_, rfl, by rw [unhide HFL]; exact unhide HF⟩
    case rest =>
      obtain ⟨gf, rfl, I4⟩ := hcut
      have HI4 := hide I4
      clear I4 HI3
      go_upto_region 24 with fail
      obtain ⟨G, hG⟩ : ∃ G : Bool, G = decide (chk 7 P = C) := ⟨_, rfl⟩
      have HG := hide hG
      clear hG
      have hzF : ZF.size = 8 := by rw [unhide HZF]; rfl
      have hz5 : Z5.size = 5 := by rw [unhide HZ5]; rfl
      have HzF := hide hzF
      have Hz5 := hide hz5
      clear hzF hz5
      go_cut [6] (fun v wx => v = .bool G ∧ InM w X FP NP wx)
      case first =>
        have HQ := hide (unhide HI4).drew
        go_region_held3 (fun w' => FfIn w' gf ∧ ffOf w' gf = FP ∧ RsMid w' gn 0 ∧ rsOf w' gn 0 = NP ∧ FfTo w' (w.heap.size + 1) ∧ RsIn w' (w.heap.size + 1 + 1) ∧ InMo w X gf FP gn NP w')
          ((first
            | (exact InMo.out2 gF.1 gN.1 ⟨_, _, unhide HzF, unhide Hz5, (unhide HI4).drew⟩)
            | (exact InMo.out2 gF.1 gN.1 ⟨_, _, unhide HzF, unhide Hz5, unhide (by assumption : Hid (InMn w X ZF Z5 gf FP gn NP _))⟩)
            | (exact InMo.out2 gF.1 gN.1 ⟨_, _, gF.1, unhide Hz5, ((unhide (by assumption : Hid (InMn w X ZF Z5 gf FP gn NP _))).done FP NP).1⟩)
            | (exact InMo.out2 gF.1 gN.1 ⟨_, _, unhide HzF, gN.1, ((unhide (by assumption : Hid (InMn w X ZF Z5 gf FP gn NP _))).done FP NP).2⟩)
            | (exact InMo.out2 gF.1 gN.1 ⟨_, _, gF.1, gN.1, ((((unhide (by assumption : Hid (InMn w X ZF Z5 gf FP gn NP _))).done FP NP).1).done FP NP).2⟩)
            | (exact InMo.out2 gF.1 gN.1 ⟨_, _, gF.1, gN.1, ((((unhide (by assumption : Hid (InMn w X ZF Z5 gf FP gn NP _))).done FP NP).2).done FP NP).1⟩)))
          ((first
            | (go_at_call 86; rw [unhide HFP]; refine (header_any P _ (unhide HPO)).mono ?_; rintro e w7 ⟨rfl, hbel⟩; rw [← unhide HFP]; have HQ7 := hide (InMn.call (unhide (by assumption : Hid (InMn w X ZF Z5 gf FP gn NP _))) hbel))
            | (go_at_call 87; refine (rchk7 P _).mono ?_; rintro e w8 ⟨rfl, hbel⟩; have HQ8 := hide (InMn.call (unhide (by assumption : Hid (InMn w X ZF Z5 gf FP gn NP _))) hbel))))
        all_goals go_split_ands
        all_goals go_wp2_with fail
        all_goals go_meet
        all_goals (case rel => exact ⟨by rw [unhide HG, ← chk_same2 (chk 7 P) C], ((unhide (by assumption : Hid (InMn w X ZF Z5 gf FP gn NP w8))).all.all.putF FP).putN NP⟩)
      case rest =>
        obtain ⟨rfl, I5⟩ := hcut
        have HI5 := hide I5
        clear I5 HI4
        go_wp2_with fail
        exact ret_cells2 (c1 := FP) (c2 := NP) Tryz.results58 rfl rfl (unhide HI5).two (unhide HI5).three Tryz.underlying125 rfl (by rw [gF.1]; exact infoFf) Tryz.underlying111 rfl (by rw [gN.1]; exact infoRs) rfl ⟨by rw [← unhide HP, ← unhide HN, ← unhide HFP, ← unhide HNP, unhide HK, ← unhide HC]; show Ending.returned (.tuple #[.agg FP, .agg NP, .bool G]) = _; rw [unhide HG]; rfl, (unhide HI5).below⟩

end Go.Proofs.YtgpojbgjfibblaaGreat.texts

namespace Go.Proofs.YtgpojbgjfibblaaGreat.texts
open Go.RowKit
set_option linter.unusedVariables false
attribute [local go_sem ↓] Go.wp_at_zero Go.wp_at_succ
attribute [local go_sem] bs_size be_length bs_append List.length_append
attribute [local go_sem ↓] loadRx_eq storeRx_eq
attribute [local go_sem] run_loadRx run_storeRx

theorem TkA.start {w w1 : World} {b : Nat} {m : Rcv} (f : Fr) (h : RcvAt w b m) (hb : Below (w.alloc (.cells zeroP.cells 41)).heap.size (w.alloc (.cells zeroP.cells 41)) w1) : TkA w b m f w1.heap.size (w1.alloc (.cells f.cells 168)) :=
  have h1 : RcvAt (w.alloc (.cells zeroP.cells 41)) b m := block_alloc h _
  have h2 := block_keep (heap_alloc_new w (.cells zeroP.cells 41)) hb
  ⟨block_alloc (block_keep h1 hb) _, block_alloc h2 _, heap_alloc_new w1 _, block_lt h2, block_lt h, ((Only.of_below ((Below.refl _ _).alloc (Nat.le_refl _) _)).trans (Only.of_below hb)).alloc _⟩

theorem fr8 (l : List UInt8) : (frOf (readF l)).cid < 8 ∧ (frOf (readF l)).kind < 4 := by
  cases h : readF l with
  | none => exact ⟨by decide, by decide⟩
  | some f => exact ⟨(readF_ok h).1.cid, (readF_ok h).1.kind⟩

set_option maxRecDepth 100000 in
set_option maxHeartbeats 4000000 in
theorem take_bad (m : Rcv) (b : Nat) (l : List UInt8) (w : World) (hm : m.ok) (h : RcvAt w b m) (hl : l.length ≤ 9223372036854775807) (hbad : readF l = none ∨ m.cids ≤ (frOf (readF l)).cid) :
    Calls Tryz.prog 56 #[.pointer (some ⟨b, 0, none⟩), .string (bs l)] w fun e w' => e = .returned (.tuple #[.agg zeroP.cells, .string (bs []), .int .i64 4]) ∧ RcvAt w' b m ∧ Only (· = b) w w' := by
  have c1 := hm.c1
  have c8 := hm.c8
  have H := hide h
  have f8 := (fr8 l).1
  obtain ⟨F, hF⟩ : ∃ F, F = frOf (readF l) := ⟨_, rfl⟩
  rw [← hF] at f8
  obtain ⟨o, ho⟩ : ∃ o, o = (readF l).isSome := ⟨_, rfl⟩
  obtain ⟨FC, hFC⟩ : ∃ FC, FC = F.cells := ⟨_, rfl⟩
  have HX := hide (show ∀ w : World, Calls Tryz.prog 89 #[.string (bs l)] w fun e w' => e = .returned (.tuple #[.agg FC, .bool o]) ∧ Below w.heap.size w w' by
    intro w; rw [hFC, hF, ho]; exact fread_any l w hl)
  have hb2 : o = false ∨ (o = true ∧ m.cids ≤ F.cid) := by
    rcases hbad with e | e
    · left; rw [ho, e]; rfl
    · cases o with
      | false => exact Or.inl rfl
      | true => exact Or.inr ⟨rfl, by rw [hF]; exact e⟩
  have F1 : FC[1]? = some (.int .u8 F.cid) := by rw [hFC]; rfl
  have HFC := hide hFC
  have Hi := hide (show (Tryz.prog.info? 168).map (·.size) = some FC.size by rw [hFC]; exact infoFr)
  have Hs := hide (show Fr.zero.cells.size = FC.size by rw [hFC]; rfl)
  have Ho := hide (show FC.all (·.oneCell') = true by rw [hFC]; exact Fr.cells_one F)
  clear hF ho hbad h hm hFC
  rcases hb2 with rfl | ⟨rfl, hc⟩
  all_goals
    go_enter Tryz.func56, Tryz.ntmps56
    go_wp2_with (first
      | (go_at_call 89; refine (unhide HX _).mono ?_; rintro e w1 ⟨rfl, hb1⟩; have K := TkA.start F (unhide H) hb1; have k0 : (w1.alloc (.cells F.cells 168)).cell? ⟨b, 0, none⟩ = some (.int .i64 m.cids) := (block_cell K.rcv 0).trans (Rcv.get0 m); rw [← unhide HFC] at k0; have HK := hide K; clear K hb1)
      | (refine store_new (ty := 168) (old := Fr.zero.cells) rfl rfl rfl (unhide Hi) (unhide Hs) (unhide Ho) ?_)
      | (refine store_whole (ty := 41) rfl rfl (by rw [unhide HFC]; exact (unhide HK).res) infoPk rfl (Pk.cells_one zeroP) ?_))
    rw [unhide HFC]
    exact ret_whole3 (cs := zeroP.cells) Tryz.results56 rfl (setRow_heap _ _ _ _ _ _ (unhide HK).res) Tryz.underlying41 rfl infoPk rfl ⟨rfl, by rw [RcvAt, setRow_other _ _ _ _ (by have := (unhide HK).bb; omega)]; exact (unhide HK).rcv, (unhide HK).only.new (Nat.le_refl _) _⟩

/-- the receiver's context is stored -/
theorem TkA.stored {w w1 : World} {b gF : Nat} {m : Rcv} {f : Fr} (h : TkA w b m f gF w1) (k : Nat) (D : Rx) (hk : k < m.cs.length) : TkA w b (m.set k D) f gF (w1.setRow b (putRow (rowOf w1 b) (1 + k * 11) D.cells.toList)) := by
  have h1 : w1.heap[b]? = some (.cells m.cells 118 (0, 0)) := h.rcv
  have e : rowOf w1 b = m.cells := by unfold rowOf; rw [h1]
  have hb := h.bb
  have hg := h.gf
  rw [e, Nat.mul_comm k 11, Rcv.put m k D hk]
  exact ⟨setRow_heap _ _ _ _ _ _ h1, by rw [setRow_other _ _ _ _ (by omega)]; exact h.res, by rw [setRow_other _ _ _ _ (by omega)]; exact h.fr, h.gf, h.bb, h.only.setRow rfl _⟩
theorem Apart.other {w w1 : World} {g b : Nat} {C : Array Value} {t : TypeId} (h : Apart w g C t w1) (hb : b < w.heap.size) (D : Array Value) : Apart w g C t (w1.setRow b D) :=
  ⟨by rw [setRow_other _ _ _ _ (by have := h.up; omega)]; exact h.at_, h.up⟩
theorem Apart.new {w w1 : World} (h : w.heap.size < w1.heap.size) (C : Array Value) (t : TypeId) : Apart w w1.heap.size C t (w1.alloc (.cells C t)) := ⟨heap_alloc_new w1 _, h⟩
theorem TkA.lt {w w1 : World} {b gF : Nat} {m : Rcv} {f : Fr} (h : TkA w b m f gF w1) : w.heap.size < w1.heap.size := block_lt h.res

end Go.Proofs.YtgpojbgjfibblaaGreat.texts

namespace Go.Proofs.YtgpojbgjfibblaaGreat.texts
open Go.RowKit
set_option linter.unusedVariables false
attribute [local go_sem ↓] Go.wp_at_zero Go.wp_at_succ
attribute [local go_sem] bs_size be_length bs_append List.length_append
attribute [local go_sem ↓] loadRx_eq storeRx_eq
attribute [local go_sem] run_loadRx run_storeRx

theorem Only.newCell {S : Nat → Prop} {a w : World} (h : Only S a w) {p : Addr} (hg : a.heap.size ≤ p.block) (v : Value) : Only S a (w.setCell p v) :=
  ⟨h.os, h.tape, h.output, by simpa [World.setCell] using h.size, fun k hk hs => by rw [Below.heap_setCell _ _ _ _ (by omega)]; exact h.block k hk hs⟩
theorem TkA.cell {w w1 : World} {b gF : Nat} {m : Rcv} {f : Fr} (h : TkA w b m f gF w1) {g j : Nat} (hg : w.heap.size < g) (hne : g ≠ gF) (v : Value) : TkA w b m f gF (w1.setCell ⟨g, j, none⟩ v) :=
  have hb := h.bb
  have n1 : b ≠ g := by omega
  have n2 : w.heap.size ≠ g := by omega
  ⟨by rw [RcvAt, Below.heap_setCell _ _ _ _ (by exact n1)]; exact h.rcv, by rw [Below.heap_setCell _ _ _ _ (by exact n2)]; exact h.res, by rw [Below.heap_setCell _ _ _ _ (by exact fun e => hne e.symm)]; exact h.fr, h.gf, h.bb, h.only.newCell (by show w.heap.size ≤ g; omega) _⟩

set_option maxRecDepth 100000 in
set_option maxHeartbeats 8000000 in
theorem take_in (m : Rcv) (b : Nat) (l : List UInt8) (f : Fr) (w : World) (hm : m.ok) (h : RcvAt w b m) (hl : l.length ≤ 9223372036854775807) (hr : readF l = some f) (hc : f.cid < m.cids) :
    Calls Tryz.prog 56 #[.pointer (some ⟨b, 0, none⟩), .string (bs l)] w fun e w' => e = .returned (.tuple #[.agg (takeP m l).cells, .string (bs (takeB m l)), .int .i64 (takeE m l)]) ∧ RcvAt w' b (takeM m l) ∧ Only (· = b) w w' := by
  have c8 := hm.c8
  have H := hide h
  have hfo := (readF_ok hr).1
  obtain ⟨c, hcc⟩ : ∃ c, c = m.at_ f.cid := ⟨_, rfl⟩
  have hco : c.ok := by rw [hcc]; exact Rcv.at_ok hm _
  obtain ⟨d, hd⟩ : ∃ d, d = followN c f := ⟨_, rfl⟩
  obtain ⟨P, hP⟩ : ∃ P, P = madeN c f := ⟨_, rfl⟩
  have hPo : P.ok := by rw [hP]; exact madeN_ok hco hfo
  have hdo : d.ok := by rw [hd]; exact followN_ok hco hfo
  have hP2 : P = packetN d.st d.src d.dst d.port f.body := by rw [hP, hd]; rfl
  obtain ⟨E, hE⟩ : ∃ E, E = refusalN c f P := ⟨_, rfl⟩
  have hE11 : E < 11 := by rw [hE]; unfold refusalN; split; omega; split; omega; split <;> omega
  have hE4 : E ≠ 4 := by rw [hE]; unfold refusalN; split; omega; split; omega; split <;> omega
  have tE : takeE m l = E := by unfold takeE; rw [hr]; simp only; rw [if_neg (by omega), hE, hP, hcc]
  have tP : takeP m l = if E = 0 then P else zeroP := by unfold takeP; rw [hr]; simp only; rw [tE, hP, hcc]
  have tB : takeB m l = if E = 0 ∨ f.kind = 3 then [] else feedN E ((c.missed + 1) % 256) f.cid := by
    unfold takeB; rw [hr]; simp only; rw [tE, hcc]
    by_cases e : E = 0 ∨ f.kind = 3
    · rw [if_pos e, if_pos (by omega)]
    · rw [if_neg e, if_neg (by omega)]
  have tM : takeM m l = if E = 0 then m.set f.cid d else if f.kind = 3 then m else m.set f.cid { c with missed := (c.missed + 1) % 256 } := by
    unfold takeM; rw [hr]; simp only; rw [tE, if_neg hE4, hd, hcc]
  have TE := hide tE
  have TP := hide tP
  have TB := hide tB
  have TM := hide tM
  obtain ⟨FC, hFC⟩ : ∃ FC, FC = f.cells := ⟨_, rfl⟩
  obtain ⟨C, hC⟩ : ∃ C, C = c.cells := ⟨_, rfl⟩
  obtain ⟨N, hN⟩ : ∃ N, N = d.cells := ⟨_, rfl⟩
  obtain ⟨PC, hPC⟩ : ∃ PC, PC = P.cells := ⟨_, rfl⟩
  have X1 := hide (show ∀ w : World, Calls Tryz.prog 89 #[.string (bs l)] w fun e w' => e = .returned (.tuple #[.agg FC, .bool true]) ∧ Below w.heap.size w w' by
    intro w; have := fread_any l w hl; rw [hr] at this; rw [hFC]; exact this)
  have X2 := hide (show ∀ w : World, Calls Tryz.prog 90 #[.agg C, .agg FC] w fun e w' => e = .returned (.agg N) ∧ Below w.heap.size w w' by
    intro w; rw [hC, hFC, hN, hd]; exact follow_any c f w hco hfo)
  have X3 := hide (show ∀ w : World, Calls Tryz.prog 91 #[.agg #[.int .u16 d.st.seq, .int .u16 d.st.stride, .int .u16 d.st.offset, .int .u32 d.st.lag, .int .u8 d.st.flags], .agg #[.int .u32 d.src, .int .u32 d.dst, .int .u16 d.port], .string (bs f.body)] w fun e w' => e = .returned (.agg PC) ∧ Below w.heap.size w w' by
    intro w; rw [hPC, hP2]; exact spacket_any d.st d.src d.dst d.port f.body w hdo.st)
  have X4 := hide (show ∀ w : World, Calls Tryz.prog 92 #[.agg C, .agg FC, .agg PC] w fun e w' => e = .returned (.int .i64 E) ∧ Below w.heap.size w w' by
    intro w; rw [hC, hFC, hPC, hE]; exact refusal_any c f P w hfo hPo)
  have hml := hm.len
  have hk8 : f.cid < 8 := by omega
  have F0 : FC[0]? = some (.int .u8 f.kind) := by rw [hFC]; rfl
  have F1 : FC[1]? = some (.int .u8 f.cid) := by rw [hFC]; rfl
  have N1 : N[1]? = some (.int .u32 d.src) := by rw [hN]; rfl
  have N2 : N[2]? = some (.int .u32 d.dst) := by rw [hN]; rfl
  have N3 : N[3]? = some (.int .u16 d.port) := by rw [hN]; rfl
  have N5 : N[5]? = some (.int .u16 d.st.seq) := by rw [hN]; rfl
  have N6 : N[6]? = some (.int .u16 d.st.stride) := by rw [hN]; rfl
  have N7 : N[7]? = some (.int .u16 d.st.offset) := by rw [hN]; rfl
  have N8 : N[8]? = some (.int .u32 d.st.lag) := by rw [hN]; rfl
  have N9 : N[9]? = some (.int .u8 d.st.flags) := by rw [hN]; rfl
  have HFC := hide hFC
  have HC := hide hC
  have HN := hide hN
  have HPC := hide hPC
  have Hcc := hide hcc
  have FI := hide (show (Tryz.prog.info? 168).map (·.size) = some FC.size by rw [hFC]; exact infoFr)
  have FS := hide (show Fr.zero.cells.size = FC.size by rw [hFC]; rfl)
  have FO := hide (show FC.all (·.oneCell') = true by rw [hFC]; exact Fr.cells_one f)
  have CI := hide (show (Tryz.prog.info? 113).map (·.size) = some C.size by rw [hC]; exact infoRx)
  have CS := hide (show Rx.blank.cells.size = C.size by rw [hC]; rfl)
  have CO := hide (show C.all (·.oneCell') = true by rw [hC]; exact Rx.cells_one c)
  have NI := hide (show (Tryz.prog.info? 113).map (·.size) = some N.size by rw [hN]; exact infoRx)
  have NS := hide (show Rx.blank.cells.size = N.size by rw [hN]; rfl)
  have NO := hide (show N.all (·.oneCell') = true by rw [hN]; exact Rx.cells_one d)
  have PI := hide (show (Tryz.prog.info? 41).map (·.size) = some PC.size by rw [hPC]; exact infoPk)
  have PS := hide (show zeroP.cells.size = PC.size by rw [hPC]; rfl)
  have PO := hide (show PC.all (·.oneCell') = true by rw [hPC]; exact Pk.cells_one P)
  have i0 : (0 : Int) ≤ (f.cid : Int) := by omega
  have i1 : (f.cid : Int) < 8 := by omega
  have hmiss := hco.missed
  obtain ⟨k, hk⟩ : ∃ k, k = f.cid := ⟨_, rfl⟩
  clear hr h hm hfo hcc hco hd hP hPo hdo hP2 hE tE tP tB tM hFC hC hN hPC hk
  go_enter Tryz.func56, Tryz.ntmps56
  go_upto_region 5 with (first
      | (go_at_call 89; refine (unhide X1 _).mono ?_; rintro e w1 ⟨rfl, hb1⟩; have K := TkA.start f (unhide H) hb1; rw [← unhide HFC] at K; have k0 : (w1.alloc (.cells FC 168)).cell? ⟨b, 0, none⟩ = some (.int .i64 m.cids) := (block_cell K.rcv 0).trans (Rcv.get0 m); have HK := hide K; clear K hb1)
      | (refine store_new (ty := 168) (old := Fr.zero.cells) rfl rfl rfl (unhide FI) (unhide FS) (unhide FO) ?_))
  go_cut [10] (fun v wx => ∃ gC, v = .pointer (some ⟨gC, 0, none⟩) ∧ TkA w b m f w1.heap.size wx ∧ Apart w gC C 113 wx)
  case first =>
    go_wp2_with (first
      | (refine load_part (ty := 113) rfl ((unhide HK).rcv.range f.cid (by omega) (by rw [← unhide Hcc]; exact unhide HC)) Tryz.underlying113 rfl (unhide CI) ?_)
      | (refine store_new (ty := 113) (old := Rx.blank.cells) (g := w1.heap.size + 1) rfl rfl (by simp) (unhide CI) (unhide CS) (unhide CO) ?_))
    go_meet
    case rel => exact ⟨_, rfl, (unhide HK).alloc _, by have := heap_alloc_new (w1.alloc (.cells FC 168)) (.cells C 113); simpa using this, by have := (unhide HK).gf; omega⟩
  case rest =>
    obtain ⟨gC, rfl, K2, A2⟩ := hcut
    generalize w1.heap.size = gF at *
    have HK2 := hide K2
    have HA2 := hide A2
    clear K2 A2 HK k0 X1 H
    go_upto_region 6 with fail
    go_cut [11] (fun v wx => ∃ gN, v = .pointer (some ⟨gN, 0, none⟩) ∧ TkA w b m f gF wx ∧ Apart w gC C 113 wx ∧ Apart w gN N 113 wx)
    case first =>
      go_wp2_with (first
        | (refine load_whole (ty := 113) rfl (unhide HA2).at_ Tryz.underlying113 rfl (unhide CI) ?_)
        | (refine load_whole (ty := 168) rfl (by rw [unhide HFC]; exact (unhide HK2).fr) Tryz.underlying168 rfl (unhide FI) ?_)
        | (go_at_call 90; refine (unhide X2 _).mono ?_; rintro e w3 ⟨rfl, hb3⟩; have HK3 := hide ((unhide HK2).call hb3); have HA3 := hide ((unhide HA2).call hb3); clear hb3)
        | (refine store_new (ty := 113) (old := Rx.blank.cells) rfl rfl rfl (unhide NI) (unhide NS) (unhide NO) ?_))
      go_meet
      case rel => exact ⟨_, rfl, (unhide HK3).alloc _, (unhide HA3).alloc _, Apart.new (unhide HK3).lt _ _⟩
    case rest =>
      obtain ⟨gN, rfl, K3, A3, B3⟩ := hcut
      clear HK2 HA2 X2
      have n1 := (block_cell B3.at_ 1).trans N1
      have n2 := (block_cell B3.at_ 2).trans N2
      have n3 := (block_cell B3.at_ 3).trans N3
      have n5 := (block_cell B3.at_ 5).trans N5
      have n6 := (block_cell B3.at_ 6).trans N6
      have n7 := (block_cell B3.at_ 7).trans N7
      have n8 := (block_cell B3.at_ 8).trans N8
      have n9 := (block_cell B3.at_ 9).trans N9
      obtain ⟨_, _, _, _, _, _, _, _, _, _, _, _, k12⟩ := fr_cells K3.fr
      have HK3 := hide K3
      have HA3 := hide A3
      have HB3 := hide B3
      clear K3 A3 B3 N1 N2 N3 N5 N6 N7 N8 N9 F0 F1
      go_upto_region 7 with fail
      go_cut [12] (fun v wx => ∃ gP, v = .pointer (some ⟨gP, 0, none⟩) ∧ TkA w b m f gF wx ∧ Apart w gC C 113 wx ∧ Apart w gN N 113 wx ∧ Apart w gP PC 41 wx)
      case first =>
        go_wp2_with (first
          | (go_at_call 91; refine (unhide X3 _).mono ?_; rintro e w4 ⟨rfl, hb4⟩; have HK4 := hide ((unhide HK3).call hb4); have HA4 := hide ((unhide HA3).call hb4); have HB4 := hide ((unhide HB3).call hb4); clear hb4)
          | (refine store_new (ty := 41) (old := zeroP.cells) rfl rfl rfl (unhide PI) (unhide PS) (unhide PO) ?_))
        go_meet
        case rel => exact ⟨_, rfl, (unhide HK4).alloc _, (unhide HA4).alloc _, (unhide HB4).alloc _, Apart.new (unhide HK4).lt _ _⟩
      case rest =>
        obtain ⟨gP, rfl, K4, A4, B4, P4⟩ := hcut
        have HK4 := hide K4
        have HA4 := hide A4
        have HB4 := hide B4
        have HP4 := hide P4
        clear HK3 HA3 HB3 X3 K4 A4 B4 P4 n1 n2 n3 n5 n6 n7 n8 n9 k12
        go_upto_region 8 with fail
        go_cut [13] (fun v wx => v = .int .i64 E ∧ TkA w b m f gF wx ∧ Apart w gC C 113 wx ∧ Apart w gN N 113 wx ∧ Apart w gP PC 41 wx)
        case first =>
          go_wp2_with (first
            | (refine load_whole (ty := 113) rfl (unhide HA4).at_ Tryz.underlying113 rfl (unhide CI) ?_)
            | (refine load_whole (ty := 168) rfl (by rw [unhide HFC]; exact (unhide HK4).fr) Tryz.underlying168 rfl (unhide FI) ?_)
            | (refine load_whole (ty := 41) rfl (unhide HP4).at_ Tryz.underlying41 rfl (unhide PI) ?_)
            | (go_at_call 92; refine (unhide X4 _).mono ?_; rintro e w5 ⟨rfl, hb5⟩; have HK5 := hide ((unhide HK4).call hb5); have HA5 := hide ((unhide HA4).call hb5); have HB5 := hide ((unhide HB4).call hb5); have HP5 := hide ((unhide HP4).call hb5); clear hb5))
          go_meet
          case rel => exact ⟨rfl, unhide HK5, unhide HA5, unhide HB5, unhide HP5⟩
        case rest =>
          obtain ⟨rfl, K5, A5, B5, P5⟩ := hcut
          clear HK4 HA4 HB4 HP4 X4
          by_cases h0 : E = 0
          · subst h0
            have Q := hide (show takeP m l = P ∧ takeB m l = [] ∧ takeE m l = 0 ∧ takeM m l = m.set f.cid d from ⟨by rw [unhide TP, if_pos rfl], by rw [unhide TB, if_pos (Or.inl rfl)], unhide TE, by rw [unhide TM, if_pos rfl]⟩)
            clear TP TB TE TM
            have x1 : RxIn wc.drew gN 0 := by have := B5.drew.at_; rw [unhide HN] at this; exact block_rxIn this
            have x2 : rxOf wc.drew gN 0 = N := by have := B5.drew.at_; rw [unhide HN] at this ⊢; exact block_rxOf this
            have x3 : RxTo wc.drew b (1 + f.cid * 11) := K5.drew.rcv.to f.cid (by omega)
            have x4 : GoodRx N := by rw [unhide HN]; exact Rx.good d
            have HK5 := hide K5.drew
            have HP5 := hide P5.drew
            clear K5 A5 B5 P5
            go_upto_region 10 with fail
            go_region
            all_goals
              have K6 := (unhide HK5).stored f.cid d (by omega)
              rw [← unhide HN] at K6
              have P6 := (unhide HP5).other (unhide HK5).bb (putRow (rowOf wc.drew b) (1 + f.cid * 11) N.toList)
              have HK6 := hide K6
              have HP6 := hide P6
              generalize wc.drew.setRow b (putRow (rowOf wc.drew b) (1 + f.cid * 11) N.toList) = w6 at HK6 HP6 ⊢
              clear K6 P6
              go_wp2_with (first
                | (refine load_whole (ty := 41) rfl (unhide HP6).at_ Tryz.underlying41 rfl (unhide PI) ?_)
                | (refine store_whole (ty := 41) rfl rfl (unhide HK6).res (unhide PI) (unhide PS) (unhide PO) ?_))
              exact ret_whole3 (cs := PC) Tryz.results56 rfl (setRow_heap _ _ _ _ _ _ (unhide HK6).res) Tryz.underlying41 rfl (unhide PI) rfl ⟨by rw [(unhide Q).1, (unhide Q).2.1, (unhide Q).2.2.1, unhide HPC]; rfl, by rw [(unhide Q).2.2.2, RcvAt, setRow_other _ _ _ _ (by have := (unhide HK6).bb; omega)]; exact (unhide HK6).rcv, (unhide HK6).only.new (Nat.le_refl _) _⟩
          · have hEb : ((E : Int) == 0) = false := by rw [beq_eq_false_iff_ne]; omega
            obtain ⟨k0, k1, _, _, _, _, _, _, _, _, _, _, _⟩ := fr_cells K5.fr
            by_cases h3 : f.kind = 3
            · have Q := hide (show takeP m l = zeroP ∧ takeB m l = [] ∧ takeE m l = E ∧ takeM m l = m from ⟨by rw [unhide TP, if_neg h0], by rw [unhide TB, if_pos (Or.inr h3)], unhide TE, by rw [unhide TM, if_neg h0, if_pos h3]⟩)
              clear TP TB TE TM
              have k0' : wc.cell? ⟨gF, 0, none⟩ = some (.int .u8 3) := by rw [k0, h3]; rfl
              clear k0
              have HK5 := hide K5
              clear K5 A5 B5 P5
              go_wp2_with (refine store_whole (ty := 41) rfl rfl (unhide HK5).res infoPk rfl (Pk.cells_one zeroP) ?_)
              exact ret_whole3 (cs := zeroP.cells) Tryz.results56 rfl (setRow_heap _ _ _ _ _ _ (unhide HK5).res) Tryz.underlying41 rfl infoPk rfl ⟨by rw [(unhide Q).1, (unhide Q).2.1, (unhide Q).2.2.1]; rfl, by rw [(unhide Q).2.2.2, RcvAt, setRow_other _ _ _ _ (by have := (unhide HK5).bb; omega)]; exact (unhide HK5).rcv, (unhide HK5).only.new (Nat.le_refl _) _⟩
            · have h3b : ((f.kind : Int) == 3) = false := by rw [beq_eq_false_iff_ne]; omega
              obtain ⟨M, hM⟩ : ∃ M, M = (c.missed + 1) % 256 := ⟨_, rfl⟩
              have hM256 : M < 256 := by omega
              obtain ⟨c2, hc2⟩ : ∃ c2, c2 = ({ c with missed := M } : Rx) := ⟨_, rfl⟩
              have Q := hide (show takeP m l = zeroP ∧ takeB m l = feedN E M f.cid ∧ takeE m l = E ∧ takeM m l = m.set f.cid c2 from ⟨by rw [unhide TP, if_neg h0], by rw [unhide TB, if_neg (by omega), hM], unhide TE, by rw [unhide TM, if_neg h0, if_neg h3, hc2, hM]⟩)
              clear TP TB TE TM
              have hne : gC ≠ gF := by
                intro e
                have h1 := A5.at_
                rw [e, K5.fr] at h1
                simp at h1
              have hMw : ((c.missed : Int) + 1) % 256 = (M : Int) := by omega
              have X5 := hide (show ∀ w : World, Calls Tryz.prog 93 #[.int .i64 E, .int .u8 M, .int .u8 f.cid] w fun e w' => e = .returned (.string (bs (feedN E M f.cid))) ∧ Below w.heap.size w w' from fun w => feedback_any E M f.cid w hE11 hM256 hk8)
              have A5' := A5.at_
              rw [unhide HC] at A5'
              obtain ⟨_, _, _, _, _, _, _, _, _, _, c10⟩ := rx_cells A5'
              have d10 := block_free A5' 10
              have L6 : Apart w gC c2.cells 113 (wc.setCell ⟨gC, 10, none⟩ (.int .u8 M)) := by
                refine ⟨?_, A5.up⟩
                have e := heap_setCell_same wc gC 10 _ _ (.int .u8 (M : Int)) A5'
                rw [e, hc2]
                simp only [Rx.cells, List.setIfInBounds_toArray, List.set_cons_zero, List.set_cons_succ]
              have K6 : TkA w b m f gF (wc.setCell ⟨gC, 10, none⟩ (.int .u8 M)) := K5.cell A5.up hne _
              have HK5 := hide K5
              have HL6 := hide L6
              have HK6 := hide K6
              have Hc2 := hide hc2
              clear A5 B5 P5 A5' L6 K6 K5 hM hc2
              go_upto_region 15 with fail
              generalize wc.setCell ⟨gC, 10, none⟩ (.int .u8 (M : Int)) = w6 at HL6 HK6 ⊢
              obtain ⟨C2, hC2⟩ : ∃ C2, C2 = c2.cells := ⟨_, rfl⟩
              rw [← hC2] at HL6
              have HC2 := hide hC2
              clear hC2 HK5 c10 d10 k0 k1
              have x1 : RxIn w6.drew gC 0 := by have := (unhide HL6).drew.at_; rw [unhide HC2] at this; exact block_rxIn this
              have x2 : rxOf w6.drew gC 0 = C2 := by have := (unhide HL6).drew.at_; rw [unhide HC2] at this ⊢; exact block_rxOf this
              have x3 : RxTo w6.drew b (1 + f.cid * 11) := (unhide HK6).drew.rcv.to f.cid (by omega)
              have x4 : GoodRx C2 := by rw [unhide HC2]; exact Rx.good c2
              go_region
              all_goals
                have K7 := (unhide HK6).drew.stored f.cid c2 (by omega)
                rw [← unhide HC2] at K7
                have P7 := (unhide HL6).drew.other (unhide HK6).bb (putRow (rowOf w6.drew b) (1 + f.cid * 11) C2.toList)
                have HK7 := hide K7
                have HP7 := hide P7
                generalize w6.drew.setRow b (putRow (rowOf w6.drew b) (1 + f.cid * 11) C2.toList) = w7 at HK7 HP7 ⊢
                clear K7 P7 x1 x2 x3 x4
                obtain ⟨_, k1, _, _, _, _, _, _, _, _, _, _, _⟩ := fr_cells (unhide HK7).fr
                have c10 : w7.cell? ⟨gC, 10, none⟩ = some (.int .u8 M) := by
                  have := (unhide HP7).at_
                  rw [unhide HC2] at this
                  have := (rx_cells this).2.2.2.2.2.2.2.2.2.2
                  rw [this, unhide Hc2]
                go_wp2_with (first
                  | (go_at_call 93; refine (unhide X5 _).mono ?_; rintro e w8 ⟨rfl, hb8⟩; have HK8 := hide ((unhide HK7).call hb8); clear hb8)
                  | (refine store_whole (ty := 41) rfl rfl (unhide HK8).res infoPk rfl (Pk.cells_one zeroP) ?_))
                exact ret_whole3 (cs := zeroP.cells) Tryz.results56 rfl (setRow_heap _ _ _ _ _ _ (unhide HK8).res) Tryz.underlying41 rfl infoPk rfl ⟨by rw [(unhide Q).1, (unhide Q).2.1, (unhide Q).2.2.1]; rfl, by rw [(unhide Q).2.2.2, RcvAt, setRow_other _ _ _ _ (by have := (unhide HK8).bb; omega)]; exact (unhide HK8).rcv, (unhide HK8).only.new (Nat.le_refl _) _⟩

end Go.Proofs.YtgpojbgjfibblaaGreat.texts

namespace Go.Proofs.YtgpojbgjfibblaaGreat.texts
open Go.RowKit
set_option linter.unusedVariables false
attribute [local go_sem ↓] Go.wp_at_zero Go.wp_at_succ

theorem take_any (m : Rcv) (b : Nat) (l : List UInt8) (w : World) (hm : m.ok) (h : RcvAt w b m) (hl : l.length ≤ 9223372036854775807) :
    Calls Tryz.prog 56 #[.pointer (some ⟨b, 0, none⟩), .string (bs l)] w fun e w' => e = .returned (.tuple #[.agg (takeP m l).cells, .string (bs (takeB m l)), .int .i64 (takeE m l)]) ∧ RcvAt w' b (takeM m l) ∧ Only (· = b) w w' := by
  cases hr : readF l with
  | none =>
    have e1 : takeE m l = 4 := by unfold takeE; rw [hr]
    have e2 : takeP m l = zeroP := by unfold takeP; rw [hr]
    have e3 : takeB m l = [] := by unfold takeB; rw [hr]
    have e4 : takeM m l = m := by unfold takeM; rw [hr]
    rw [e1, e2, e3, e4]
    exact take_bad m b l w hm h hl (Or.inl hr)
  | some f =>
    by_cases hc : f.cid < m.cids
    · exact take_in m b l f w hm h hl hr hc
    · have e1 : takeE m l = 4 := by unfold takeE; rw [hr]; simp only; rw [if_pos (by omega)]
      have e2 : takeP m l = zeroP := by unfold takeP; rw [hr]; simp only; rw [e1, if_neg (by decide)]
      have e3 : takeB m l = [] := by unfold takeB; rw [hr]; simp only; rw [e1, if_pos (Or.inr (Or.inl rfl))]
      have e4 : takeM m l = m := by unfold takeM; rw [hr]; simp only; rw [e1, if_pos rfl]
      rw [e1, e2, e3, e4]
      exact take_bad m b l w hm h hl (Or.inr (by rw [hr]; exact Nat.le_of_not_lt hc))

set_option maxRecDepth 100000 in
set_option maxHeartbeats 2000000 in
theorem gtake_any (m : Rcv) (b : Nat) (l : List UInt8) (w : World) (hm : m.ok) (h : RcvAt w b m) (hl : l.length ≤ 9223372036854775807) :
    Calls Tryz.prog 31 #[.pointer (some ⟨b, 0, none⟩), .string (bs l)] w fun e w' => e = .returned (.tuple #[.agg (takeP m l).cells, .string (bs (takeB m l)), .int .i64 (takeE m l)]) ∧ RcvAt w' b (takeM m l) ∧ Only (· = b) w w' := by
  have hbw := block_lt h
  have H := hide (block_alloc h (.cells zeroP.cells 41) : RcvAt (w.alloc (.cells zeroP.cells 41)) b m)
  have HM := hide hm
  obtain ⟨PC, hPC⟩ : ∃ PC, PC = (takeP m l).cells := ⟨_, rfl⟩
  obtain ⟨B, hB⟩ : ∃ B, B = bs (takeB m l) := ⟨_, rfl⟩
  obtain ⟨E, hE⟩ : ∃ E, E = takeE m l := ⟨_, rfl⟩
  have X := hide (show ∀ w : World, RcvAt w b m → Calls Tryz.prog 56 #[.pointer (some ⟨b, 0, none⟩), .string (bs l)] w fun e w' => e = .returned (.tuple #[.agg PC, .string B, .int .i64 E]) ∧ RcvAt w' b (takeM m l) ∧ Only (· = b) w w' by
    intro w hw; rw [hPC, hB, hE]; exact take_any m b l w hm hw hl)
  have PI := hide (show (Tryz.prog.info? 41).map (·.size) = some PC.size by rw [hPC]; exact infoPk)
  have PS := hide (show zeroP.cells.size = PC.size by rw [hPC]; rfl)
  have PO := hide (show PC.all (·.oneCell') = true by rw [hPC]; exact Pk.cells_one _)
  rw [← hPC, ← hB, ← hE]
  clear h hm hPC hB hE
  go_enter Tryz.func31, Tryz.ntmps31
  go_wp2_with (first
    | (go_at_call 56; refine (unhide X _ (unhide H)).mono ?_; rintro e w1 ⟨rfl, h1, h2⟩; have R1 := h2.keep (heap_alloc_new w (.cells zeroP.cells 41)) (by omega); have HR := hide R1; have H1 := hide h1; have H2 := hide h2; clear R1 h1 h2)
    | (refine store_whole (ty := 41) rfl rfl (unhide HR) (unhide PI) (unhide PS) (unhide PO) ?_))
  exact ret_whole3 (cs := PC) Tryz.results31 rfl (setRow_heap _ _ _ _ _ _ (unhide HR)) Tryz.underlying41 rfl (unhide PI) rfl ⟨rfl, by rw [RcvAt, setRow_other _ _ _ _ (by omega)]; exact unhide H1, ((Only.of_below ((Below.refl _ _).alloc (Nat.le_refl _) _)).trans (unhide H2)).new (Nat.le_refl _) _⟩

end Go.Proofs.YtgpojbgjfibblaaGreat.texts
