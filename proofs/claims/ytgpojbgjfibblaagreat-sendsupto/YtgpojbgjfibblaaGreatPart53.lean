/-
  A packet among the arguments, opened: its cells, and that its numbers have their widths. A configuration and a script among the arguments, opened.
  Conditions stand in each theorem.
-/
import Derived.Test.YtgpojbgjfibblaaGreatPart2
import Derived.ProofKit
import Derived.OpenShut
import Derived.Test.YtgpojbgjfibblaaGreatSendsWalk
import Derived.Deep.Slices
namespace Go.Proofs.YtgpojbgjfibblaaGreat.texts
open Go.RowKit
set_option linter.unusedVariables false

theorem cellsPacket : Tryz.prog.cellsOf 41 = 8 := by kernel_rfl
theorem cellsRoute : Tryz.prog.cellsOf 39 = 3 := by kernel_rfl
theorem cells8' : Tryz.prog.cellsOf 5 = 1 := by kernel_rfl
theorem cells16 : Tryz.prog.cellsOf 37 = 1 := by kernel_rfl
theorem cells32 : Tryz.prog.cellsOf 36 = 1 := by kernel_rfl
theorem cellsInt : Tryz.prog.cellsOf 3 = 1 := by kernel_rfl
theorem cellsString : Tryz.prog.cellsOf 9 = 1 := by kernel_rfl

theorem wf8 {a : Int} (h : (Lit.int .u8 a).wf = true) : ∃ n : Nat, a = n ∧ n < 256 := by
  have h : 0 ≤ a ∧ a ≤ 255 := by simpa [Lit.wf, IntKind.min, IntKind.max, IntKind.signed, IntKind.bits] using h
  exact ⟨a.toNat, by omega, by omega⟩
theorem wf16 {a : Int} (h : (Lit.int .u16 a).wf = true) : ∃ n : Nat, a = n ∧ n < 65536 := by
  have h : 0 ≤ a ∧ a ≤ 65535 := by simpa [Lit.wf, IntKind.min, IntKind.max, IntKind.signed, IntKind.bits] using h
  exact ⟨a.toNat, by omega, by omega⟩
theorem wf32 {a : Int} (h : (Lit.int .u32 a).wf = true) : ∃ n : Nat, a = n ∧ n < 4294967296 := by
  have h : 0 ≤ a ∧ a ≤ 4294967295 := by simpa [Lit.wf, IntKind.min, IntKind.max, IntKind.signed, IntKind.bits] using h
  exact ⟨a.toNat, by omega, by omega⟩

theorem list8 {α : Type} {l : List α} (h : l.length = 8) : ∃ a b c d e f g i, l = [a, b, c, d, e, f, g, i] := by
  match l, h with
  | [a, b, c, d, e, f, g, i], _ => exact ⟨a, b, c, d, e, f, g, i, rfl⟩
theorem list6 {α : Type} {l : List α} (h : l.length = 6) : ∃ a b c d e f, l = [a, b, c, d, e, f] := by
  match l, h with
  | [a, b, c, d, e, f], _ => exact ⟨a, b, c, d, e, f, rfl⟩

section
variable {H : Type} {enc : TypeId × Value → H} {w : World} {base : Nat} {spare : Nat → Bool} {held : Bool}

theorem open_route {fuel : Nat} {c0 c1 c2 : Value} {x : DataW H × List MemPlace} (h : DataW.trod enc Tryz.prog w base spare held fuel 39 [c0, c1, c2] = some x) :
    ∃ a b c : Nat, a < 4294967296 ∧ b < 4294967296 ∧ c < 65536 ∧ c0 = .int .u32 a ∧ c1 = .int .u32 b ∧ c2 = .int .u16 c ∧ x.1 = .agg [.lit (.int .u32 a), .lit (.int .u32 b), .lit (.int .u16 c)] := by
  obtain ⟨xs, n, _, rfl, hl, hlen, hf⟩ := DataW.trod_struct Tryz.underlying39 h
  match xs, hlen with
  | [y0, y1, y2], _ =>
    have f0 := hf 0 _ rfl
    have f1 := hf 1 _ rfl
    have f2 := hf 2 _ rfl
    simp [cells32, cells16] at f0 f1 f2
    obtain ⟨a, e0, d0, wa⟩ := DataW.trod_int Tryz.underlying36 f0
    obtain ⟨b, e1, d1, wb⟩ := DataW.trod_int Tryz.underlying36 f1
    obtain ⟨c, e2, d2, wc⟩ := DataW.trod_int Tryz.underlying37 f2
    obtain ⟨a, rfl, ha⟩ := wf32 wa
    obtain ⟨b, rfl, hb⟩ := wf32 wb
    obtain ⟨c, rfl, hc⟩ := wf16 wc
    simp at e0 e1 e2
    exact ⟨a, b, c, ha, hb, hc, e0, e1, e2, by simp [d0, d1, d2]⟩

set_option maxRecDepth 10000 in
theorem open_pk {fuel : Nat} {cs : List Value} {x : DataW H × List MemPlace} (h : DataW.trod enc Tryz.prog w base spare held fuel 41 cs = some x) :
    ∃ p : Pk, p.ok ∧ p.body.length ≤ maxLen ∧ cs = p.cells.toList ∧ x.1 = .agg [.agg [.lit (.int .u32 p.src), .lit (.int .u32 p.dst), .lit (.int .u16 p.port)], .lit (.int .u16 p.seq), .lit (.int .u32 p.time), .lit (.int .u16 p.id), .lit (.int .u8 p.flags), .lit (.string p.body)] := by
  obtain ⟨xs, n, _, rfl, hl, hlen, hf⟩ := DataW.trod_struct Tryz.underlying41 h
  rw [cellsPacket] at hl
  obtain ⟨c0, c1, c2, c3, c4, c5, c6, c7, rfl⟩ := list8 hl
  obtain ⟨y0, y1, y2, y3, y4, y5, rfl⟩ := list6 hlen
  have f0 := hf 0 _ rfl
  have f1 := hf 1 _ rfl
  have f2 := hf 2 _ rfl
  have f3 := hf 3 _ rfl
  have f4 := hf 4 _ rfl
  have f5 := hf 5 _ rfl
  simp [cellsRoute, cells32, cells16, cells8', cellsString] at f0 f1 f2 f3 f4 f5
  obtain ⟨a, b, c, ha, hb, hc, rfl, rfl, rfl, d0⟩ := open_route f0
  obtain ⟨q, e1, d1, wq⟩ := DataW.trod_int Tryz.underlying37 f1
  obtain ⟨t, e2, d2, wt⟩ := DataW.trod_int Tryz.underlying36 f2
  obtain ⟨i, e3, d3, wi⟩ := DataW.trod_int Tryz.underlying37 f3
  obtain ⟨f, e4, d4, wf⟩ := DataW.trod_int Tryz.underlying5 f4
  obtain ⟨s, e5, d5, ws⟩ := DataW.trod_string Tryz.underlying9 f5
  obtain ⟨q, rfl, hq⟩ := wf16 wq
  obtain ⟨t, rfl, ht⟩ := wf32 wt
  obtain ⟨i, rfl, hi⟩ := wf16 wi
  obtain ⟨f, rfl, hf'⟩ := wf8 wf
  simp at e1 e2 e3 e4 e5
  subst e1 e2 e3 e4 e5
  refine ⟨⟨a, b, c, q, t, i, f, s.data.toList⟩, ⟨ha, hb, hc, hq, ht, hi, hf'⟩, by simpa using ws, by simp [Pk.cells, bs_of], by simp [d0, d1, d2, d3, d4, d5]⟩
end

end Go.Proofs.YtgpojbgjfibblaaGreat.texts

namespace Go.Proofs.YtgpojbgjfibblaaGreat.texts
open Go.RowKit
set_option linter.unusedVariables false

theorem cellsOp : Tryz.prog.cellsOf 43 = 11 := by kernel_rfl
theorem cellsConf : Tryz.prog.cellsOf 23 = 3 := by kernel_rfl
theorem list11 {α : Type} {l : List α} (h : l.length = 11) : ∃ a b c d e f g i j k m, l = [a, b, c, d, e, f, g, i, j, k, m] := by
  match l, h with
  | [a, b, c, d, e, f, g, i, j, k, m], _ => exact ⟨a, b, c, d, e, f, g, i, j, k, m, rfl⟩
theorem list4 {α : Type} {l : List α} (h : l.length = 4) : ∃ a b c d, l = [a, b, c, d] := by
  match l, h with
  | [a, b, c, d], _ => exact ⟨a, b, c, d, rfl⟩
theorem list3' {α : Type} {l : List α} (h : l.length = 3) : ∃ a b c, l = [a, b, c] := by
  match l, h with
  | [a, b, c], _ => exact ⟨a, b, c, rfl⟩
theorem wf64' {a : Int} (h : (Lit.int .i64 a).wf = true) : -9223372036854775808 ≤ a ∧ a ≤ 9223372036854775807 := by
  simpa [Lit.wf, IntKind.min, IntKind.max, IntKind.signed, IntKind.bits] using h

section
variable {H : Type} {enc : TypeId × Value → H} {w : World} {base : Nat} {spare : Nat → Bool} {held : Bool}

set_option maxRecDepth 10000 in
theorem open_op {fuel : Nat} {cs : List Value} {x : DataW H × List MemPlace} (h : DataW.trod enc Tryz.prog w base spare held fuel 43 cs = some x) :
    ∃ o : Oq, o.ok ∧ cs = o.cells.toList := by
  obtain ⟨xs, n, _, rfl, hl, hlen, hf⟩ := DataW.trod_struct Tryz.underlying43 h
  rw [cellsOp] at hl
  obtain ⟨c0, c1, c2, c3, c4, c5, c6, c7, c8, c9, c10, rfl⟩ := list11 hl
  obtain ⟨y0, y1, y2, y3, rfl⟩ := list4 hlen
  have f0 := hf 0 _ rfl
  have f1 := hf 1 _ rfl
  have f2 := hf 2 _ rfl
  have f3 := hf 3 _ rfl
  simp [cellsPacket, cellsString, cellsInt] at f0 f1 f2 f3
  obtain ⟨a, e0, d0, w0⟩ := DataW.trod_int Tryz.underlying3 f0
  obtain ⟨b, e1, d1, w1⟩ := DataW.trod_int Tryz.underlying3 f1
  obtain ⟨p, hp, hpb, e2, d2⟩ := open_pk f2
  obtain ⟨s, e3, d3, ws⟩ := DataW.trod_string Tryz.underlying9 f3
  simp at e0 e1 e3
  subst e0 e1 e3
  refine ⟨⟨a, b, p, s.data.toList⟩, ⟨wf64' w0, wf64' w1, hp, by simpa using ws⟩, ?_⟩
  simp only [Pk.cells, List.cons.injEq, and_true] at e2
  obtain ⟨rfl, rfl, rfl, rfl, rfl, rfl, rfl, rfl⟩ := e2
  simp [Oq.cells, bs_of]

theorem open_conf {fuel : Nat} {cs : List Value} {x : DataW H × List MemPlace} (h : DataW.trod enc Tryz.prog w base spare held fuel 23 cs = some x) :
    ∃ a k r : Int, cs = [.int .i64 a, .int .i64 k, .int .i64 r] := by
  obtain ⟨xs, n, _, rfl, hl, hlen, hf⟩ := DataW.trod_struct Tryz.underlying23 h
  rw [cellsConf] at hl
  obtain ⟨c0, c1, c2, rfl⟩ := list3' hl
  obtain ⟨y0, y1, y2, rfl⟩ := list3' hlen
  have f0 := hf 0 _ rfl
  have f1 := hf 1 _ rfl
  have f2 := hf 2 _ rfl
  simp [cellsInt] at f0 f1 f2
  obtain ⟨a, e0, d0, w0⟩ := DataW.trod_int Tryz.underlying3 f0
  obtain ⟨b, e1, d1, w1⟩ := DataW.trod_int Tryz.underlying3 f1
  obtain ⟨c, e2, d2, w2⟩ := DataW.trod_int Tryz.underlying3 f2
  simp at e0 e1 e2
  subst e0 e1 e2
  exact ⟨a, b, c, rfl⟩

theorem ops_data {fuel : Nat} {a : Option Addr} {len cap : Nat} {x : DataW H × List MemPlace} (h : DataW.trod enc Tryz.prog w base spare held fuel 24 (Value.slice a len cap).cells.toList = some x) :
    len = 0 ∨ ∃ es sp, x.1 = .slice es sp ∧ es.length = len := by
  rcases Go.Deep.open_slice Tryz.underlying24 h with ⟨hcs, _⟩ | ⟨a, len, cap, m, n, D, Pl, hcs, hb, hl, hm, hmm, hx, hel⟩
  · simp [Value.cells] at hcs
    exact Or.inl hcs.2.1
  · simp [Value.cells] at hcs
    obtain ⟨rfl, rfl, rfl⟩ := hcs
    exact Or.inr ⟨_, _, by rw [hx], by simp⟩

theorem open_ops {fuel : Nat} {v : Value} {x : DataW H × List MemPlace} (hv : ∃ a len cap, v = .slice a len cap) (h : DataW.trod enc Tryz.prog w base spare held fuel 24 v.cells.toList = some x) :
    ∃ (S : List Oq) (ao : Option Addr) (b off cap : Nat), OpsAt w v S ao b off cap ∧ S.length ≤ maxLen ∧ (∀ (i : Nat) (hi : i < S.length), (S[i]).ok) := by
  obtain ⟨a0, l0, c0, rfl⟩ := hv
  rcases Go.Deep.open_slice Tryz.underlying24 h with ⟨hcs, _⟩ | ⟨a, len, cap, m, n, D, Pl, hcs, hb, hl, hm, hmm, hx, hel⟩
  · simp [Value.cells] at hcs
    obtain ⟨rfl, rfl, rfl⟩ := hcs
    exact ⟨[], none, 0, 0, 0, ⟨rfl, fun h => by simp at h, fun i hi => by simp at hi⟩, by simp, fun i hi => by simp at hi⟩
  · simp [Value.cells] at hcs
    obtain ⟨rfl, rfl, rfl⟩ := hcs
    have hlm : l0 ≤ m := by rw [hmm]; split <;> omega
    have each : ∀ i, i < l0 → ∃ o : Oq, o.ok ∧ ∀ j, j < 11 → w.cell? (a.add (i * 11 + j)) = o.cells[j]? := by
      intro i hi
      obtain ⟨cs', h1, h2⟩ := hel i (by omega)
      rw [cellsOp] at h1
      obtain ⟨_, hlen, hcell⟩ := World.cells?_some h1
      obtain ⟨o, ho, rfl⟩ := open_op h2
      refine ⟨o, ho, fun j hj => ?_⟩
      have := hcell j hj
      rw [Go.Deep.add_add] at this
      rw [this]
      have hs : j < o.cells.size := hj
      simp [hs]
    have : Inhabited Oq := ⟨⟨0, 0, zeroP, []⟩⟩
    obtain ⟨q, hq⟩ := Go.Deep.choose_lt each
    have hll : ((List.range l0).map q).length = l0 := by simp
    have hget : ∀ i (hi : i < ((List.range l0).map q).length), ((List.range l0).map q)[i] = q i := fun i hi => by simp
    refine ⟨(List.range l0).map q, some a, a.block, a.off, c0, ⟨by rw [hll], fun h0 => ?_, fun i hi j hj => ?_⟩, by rw [hll]; omega, fun i hi => ?_⟩
    · rw [hll] at h0
      have hc := (hq 0 h0).2 0 (by omega)
      have hc := World.cell?_spot hc
      obtain ⟨b, o, s⟩ := a
      simp [Addr.add] at hc
      rw [hc]
    · rw [hget i hi]
      rw [hll] at hi
      have hc := (hq i hi).2 j hj
      have hs := World.cell?_spot ((hq 0 (by omega)).2 0 (by omega))
      obtain ⟨b, o, s⟩ := a
      simp [Addr.add] at hs
      subst hs
      rw [← hc, show ((⟨b, o, none⟩ : Addr).add (i * 11 + j)) = ⟨b, o + (i * 11 + j), none⟩ by simp [Addr.add], Nat.add_assoc]
    · rw [hget i hi]
      rw [hll] at hi
      exact (hq i hi).1
end

end Go.Proofs.YtgpojbgjfibblaaGreat.texts
