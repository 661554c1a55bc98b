/-
  A packet among the arguments, opened: its cells, and that its numbers have their widths.
  No condition.
-/
import Derived.Test.YtgpojbgjfibblaaPacks
import Derived.ProofKit
import Derived.OpenShut
namespace Go.Proofs.Ytgpojbgjfibblaa.texts
open Go.RowKit
set_option linter.unusedVariables false

theorem cellsPacket : Try.prog.cellsOf 51 = 8 := by kernel_rfl
theorem cellsRoute : Try.prog.cellsOf 49 = 3 := by kernel_rfl
theorem cells8' : Try.prog.cellsOf 5 = 1 := by kernel_rfl
theorem cells16 : Try.prog.cellsOf 27 = 1 := by kernel_rfl
theorem cells32 : Try.prog.cellsOf 32 = 1 := by kernel_rfl
theorem cellsInt : Try.prog.cellsOf 3 = 1 := by kernel_rfl
theorem cellsString : Try.prog.cellsOf 9 = 1 := by kernel_rfl

theorem wf8 {a : Int} (h : (Lit.int .u8 a).wf = true) : ∃ n : Nat, a = n ∧ n < 256 := by
  have h : 0 ≤ a ∧ a ≤ 255 := by simpa [Lit.wf, IntKind.min, IntKind.max, IntKind.signed, IntKind.bits] using h
  exact ⟨a.toNat, by omega, by omega⟩
theorem wf16 {a : Int} (h : (Lit.int .u16 a).wf = true) : ∃ n : Nat, a = n ∧ n < 65536 := by
  have h : 0 ≤ a ∧ a ≤ 65535 := by simpa [Lit.wf, IntKind.min, IntKind.max, IntKind.signed, IntKind.bits] using h
  exact ⟨a.toNat, by omega, by omega⟩
theorem wf32 {a : Int} (h : (Lit.int .u32 a).wf = true) : ∃ n : Nat, a = n ∧ n < 4294967296 := by
  have h : 0 ≤ a ∧ a ≤ 4294967295 := by simpa [Lit.wf, IntKind.min, IntKind.max, IntKind.signed, IntKind.bits] using h
  exact ⟨a.toNat, by omega, by omega⟩

theorem list8 {α : Type} {l : List α} (h : l.length = 8) : ∃ a b c d e f g i, l = [a, b, c, d, e, f, g, i] := by
  match l, h with
  | [a, b, c, d, e, f, g, i], _ => exact ⟨a, b, c, d, e, f, g, i, rfl⟩
theorem list6 {α : Type} {l : List α} (h : l.length = 6) : ∃ a b c d e f, l = [a, b, c, d, e, f] := by
  match l, h with
  | [a, b, c, d, e, f], _ => exact ⟨a, b, c, d, e, f, rfl⟩

section
variable {H : Type} {enc : TypeId × Value → H} {w : World} {base : Nat} {spare : Nat → Bool} {held : Bool}

theorem open_route {fuel : Nat} {c0 c1 c2 : Value} {x : DataW H × List MemPlace} (h : DataW.trod enc Try.prog w base spare held fuel 49 [c0, c1, c2] = some x) :
    ∃ a b c : Nat, a < 4294967296 ∧ b < 4294967296 ∧ c < 65536 ∧ c0 = .int .u32 a ∧ c1 = .int .u32 b ∧ c2 = .int .u16 c ∧ x.1 = .agg [.lit (.int .u32 a), .lit (.int .u32 b), .lit (.int .u16 c)] := by
  obtain ⟨xs, n, _, rfl, hl, hlen, hf⟩ := DataW.trod_struct Try.underlying49 h
  match xs, hlen with
  | [y0, y1, y2], _ =>
    have f0 := hf 0 _ rfl
    have f1 := hf 1 _ rfl
    have f2 := hf 2 _ rfl
    simp [cells32, cells16] at f0 f1 f2
    obtain ⟨a, e0, d0, wa⟩ := DataW.trod_int Try.underlying32 f0
    obtain ⟨b, e1, d1, wb⟩ := DataW.trod_int Try.underlying32 f1
    obtain ⟨c, e2, d2, wc⟩ := DataW.trod_int Try.underlying27 f2
    obtain ⟨a, rfl, ha⟩ := wf32 wa
    obtain ⟨b, rfl, hb⟩ := wf32 wb
    obtain ⟨c, rfl, hc⟩ := wf16 wc
    simp at e0 e1 e2
    exact ⟨a, b, c, ha, hb, hc, e0, e1, e2, by simp [d0, d1, d2]⟩

set_option maxRecDepth 10000 in
theorem open_pk {fuel : Nat} {cs : List Value} {x : DataW H × List MemPlace} (h : DataW.trod enc Try.prog w base spare held fuel 51 cs = some x) :
    ∃ p : Pk, p.ok ∧ p.body.length ≤ maxLen ∧ cs = p.cells.toList ∧ x.1 = .agg [.agg [.lit (.int .u32 p.src), .lit (.int .u32 p.dst), .lit (.int .u16 p.port)], .lit (.int .u16 p.seq), .lit (.int .u32 p.time), .lit (.int .u16 p.id), .lit (.int .u8 p.flags), .lit (.string p.body)] := by
  obtain ⟨xs, n, _, rfl, hl, hlen, hf⟩ := DataW.trod_struct Try.underlying51 h
  rw [cellsPacket] at hl
  obtain ⟨c0, c1, c2, c3, c4, c5, c6, c7, rfl⟩ := list8 hl
  obtain ⟨y0, y1, y2, y3, y4, y5, rfl⟩ := list6 hlen
  have f0 := hf 0 _ rfl
  have f1 := hf 1 _ rfl
  have f2 := hf 2 _ rfl
  have f3 := hf 3 _ rfl
  have f4 := hf 4 _ rfl
  have f5 := hf 5 _ rfl
  simp [cellsRoute, cells32, cells16, cells8', cellsString] at f0 f1 f2 f3 f4 f5
  obtain ⟨a, b, c, ha, hb, hc, rfl, rfl, rfl, d0⟩ := open_route f0
  obtain ⟨q, e1, d1, wq⟩ := DataW.trod_int Try.underlying27 f1
  obtain ⟨t, e2, d2, wt⟩ := DataW.trod_int Try.underlying32 f2
  obtain ⟨i, e3, d3, wi⟩ := DataW.trod_int Try.underlying27 f3
  obtain ⟨f, e4, d4, wf⟩ := DataW.trod_int Try.underlying5 f4
  obtain ⟨s, e5, d5, ws⟩ := DataW.trod_string Try.underlying9 f5
  obtain ⟨q, rfl, hq⟩ := wf16 wq
  obtain ⟨t, rfl, ht⟩ := wf32 wt
  obtain ⟨i, rfl, hi⟩ := wf16 wi
  obtain ⟨f, rfl, hf'⟩ := wf8 wf
  simp at e1 e2 e3 e4 e5
  subst e1 e2 e3 e4 e5
  refine ⟨⟨a, b, c, q, t, i, f, s.data.toList⟩, ⟨ha, hb, hc, hq, ht, hi, hf'⟩, by simpa using ws, by simp [Pk.cells, bs_of], by simp [d0, d1, d2, d3, d4, d5]⟩
end

end Go.Proofs.Ytgpojbgjfibblaa.texts
