/-
  A packet among the arguments, opened: its cells, and that its numbers have their widths. A configuration and a script among the arguments, opened. The book of lists (package gistlaw) with both its halves: the walk of holds beside lists of flows; what stays.
  Conditions stand in each theorem.
-/
import Derived.Test.YtgpojbgjfibblabGreatJoinSendModel
import Derived.ProofKit
import Derived.OpenShut
import Derived.Test.YtgpojbgjfibblabGreatJoinSendsWalk
import Derived.Deep.Slices
import Derived.Test.YtgpojbgjfibblabGreatJoinBookH
namespace Go.Proofs.YtgpojbgjfibblabGreat.texts
open Go.RowKit
set_option linter.unusedVariables false

theorem cellsPacket : Tryz.prog.cellsOf 43 = 8 := by kernel_rfl
theorem cellsRoute : Tryz.prog.cellsOf 41 = 3 := by kernel_rfl
theorem cells8' : Tryz.prog.cellsOf 5 = 1 := by kernel_rfl
theorem cells16 : Tryz.prog.cellsOf 39 = 1 := by kernel_rfl
theorem cells32 : Tryz.prog.cellsOf 38 = 1 := by kernel_rfl
theorem cellsInt : Tryz.prog.cellsOf 3 = 1 := by kernel_rfl
theorem cellsString : Tryz.prog.cellsOf 9 = 1 := by kernel_rfl

theorem wf8 {a : Int} (h : (Lit.int .u8 a).wf = true) : ∃ n : Nat, a = n ∧ n < 256 := by
  have h : 0 ≤ a ∧ a ≤ 255 := by simpa [Lit.wf, IntKind.min, IntKind.max, IntKind.signed, IntKind.bits] using h
  exact ⟨a.toNat, by omega, by omega⟩
theorem wf16 {a : Int} (h : (Lit.int .u16 a).wf = true) : ∃ n : Nat, a = n ∧ n < 65536 := by
  have h : 0 ≤ a ∧ a ≤ 65535 := by simpa [Lit.wf, IntKind.min, IntKind.max, IntKind.signed, IntKind.bits] using h
  exact ⟨a.toNat, by omega, by omega⟩
theorem wf32 {a : Int} (h : (Lit.int .u32 a).wf = true) : ∃ n : Nat, a = n ∧ n < 4294967296 := by
  have h : 0 ≤ a ∧ a ≤ 4294967295 := by simpa [Lit.wf, IntKind.min, IntKind.max, IntKind.signed, IntKind.bits] using h
  exact ⟨a.toNat, by omega, by omega⟩

theorem list8 {α : Type} {l : List α} (h : l.length = 8) : ∃ a b c d e f g i, l = [a, b, c, d, e, f, g, i] := by
  match l, h with
  | [a, b, c, d, e, f, g, i], _ => exact ⟨a, b, c, d, e, f, g, i, rfl⟩
theorem list6 {α : Type} {l : List α} (h : l.length = 6) : ∃ a b c d e f, l = [a, b, c, d, e, f] := by
  match l, h with
  | [a, b, c, d, e, f], _ => exact ⟨a, b, c, d, e, f, rfl⟩

section
variable {H : Type} {enc : TypeId × Value → H} {w : World} {base : Nat} {spare : Nat → Bool} {held : Bool}

theorem open_route {fuel : Nat} {c0 c1 c2 : Value} {x : DataW H × List MemPlace} (h : DataW.trod enc Tryz.prog w base spare held fuel 41 [c0, c1, c2] = some x) :
    ∃ a b c : Nat, a < 4294967296 ∧ b < 4294967296 ∧ c < 65536 ∧ c0 = .int .u32 a ∧ c1 = .int .u32 b ∧ c2 = .int .u16 c ∧ x.1 = .agg [.lit (.int .u32 a), .lit (.int .u32 b), .lit (.int .u16 c)] := by
  obtain ⟨xs, n, _, rfl, hl, hlen, hf⟩ := DataW.trod_struct Tryz.underlying41 h
  match xs, hlen with
  | [y0, y1, y2], _ =>
    have f0 := hf 0 _ rfl
    have f1 := hf 1 _ rfl
    have f2 := hf 2 _ rfl
    simp [cells32, cells16] at f0 f1 f2
    obtain ⟨a, e0, d0, wa⟩ := DataW.trod_int Tryz.underlying38 f0
    obtain ⟨b, e1, d1, wb⟩ := DataW.trod_int Tryz.underlying38 f1
    obtain ⟨c, e2, d2, wc⟩ := DataW.trod_int Tryz.underlying39 f2
    obtain ⟨a, rfl, ha⟩ := wf32 wa
    obtain ⟨b, rfl, hb⟩ := wf32 wb
    obtain ⟨c, rfl, hc⟩ := wf16 wc
    simp at e0 e1 e2
    exact ⟨a, b, c, ha, hb, hc, e0, e1, e2, by simp [d0, d1, d2]⟩

set_option maxRecDepth 10000 in
theorem open_pk {fuel : Nat} {cs : List Value} {x : DataW H × List MemPlace} (h : DataW.trod enc Tryz.prog w base spare held fuel 43 cs = some x) :
    ∃ p : Pk, p.ok ∧ p.body.length ≤ maxLen ∧ cs = p.cells.toList ∧ x.1 = .agg [.agg [.lit (.int .u32 p.src), .lit (.int .u32 p.dst), .lit (.int .u16 p.port)], .lit (.int .u16 p.seq), .lit (.int .u32 p.time), .lit (.int .u16 p.id), .lit (.int .u8 p.flags), .lit (.string p.body)] := by
  obtain ⟨xs, n, _, rfl, hl, hlen, hf⟩ := DataW.trod_struct Tryz.underlying43 h
  rw [cellsPacket] at hl
  obtain ⟨c0, c1, c2, c3, c4, c5, c6, c7, rfl⟩ := list8 hl
  obtain ⟨y0, y1, y2, y3, y4, y5, rfl⟩ := list6 hlen
  have f0 := hf 0 _ rfl
  have f1 := hf 1 _ rfl
  have f2 := hf 2 _ rfl
  have f3 := hf 3 _ rfl
  have f4 := hf 4 _ rfl
  have f5 := hf 5 _ rfl
  simp [cellsRoute, cells32, cells16, cells8', cellsString] at f0 f1 f2 f3 f4 f5
  obtain ⟨a, b, c, ha, hb, hc, rfl, rfl, rfl, d0⟩ := open_route f0
  obtain ⟨q, e1, d1, wq⟩ := DataW.trod_int Tryz.underlying39 f1
  obtain ⟨t, e2, d2, wt⟩ := DataW.trod_int Tryz.underlying38 f2
  obtain ⟨i, e3, d3, wi⟩ := DataW.trod_int Tryz.underlying39 f3
  obtain ⟨f, e4, d4, wf⟩ := DataW.trod_int Tryz.underlying5 f4
  obtain ⟨s, e5, d5, ws⟩ := DataW.trod_string Tryz.underlying9 f5
  obtain ⟨q, rfl, hq⟩ := wf16 wq
  obtain ⟨t, rfl, ht⟩ := wf32 wt
  obtain ⟨i, rfl, hi⟩ := wf16 wi
  obtain ⟨f, rfl, hf'⟩ := wf8 wf
  simp at e1 e2 e3 e4 e5
  subst e1 e2 e3 e4 e5
  refine ⟨⟨a, b, c, q, t, i, f, s.data.toList⟩, ⟨ha, hb, hc, hq, ht, hi, hf'⟩, by simpa using ws, by simp [Pk.cells, bs_of], by simp [d0, d1, d2, d3, d4, d5]⟩
end

end Go.Proofs.YtgpojbgjfibblabGreat.texts

namespace Go.Proofs.YtgpojbgjfibblabGreat.texts
open Go.RowKit
set_option linter.unusedVariables false

theorem cellsOp : Tryz.prog.cellsOf 45 = 11 := by kernel_rfl
theorem cellsConf : Tryz.prog.cellsOf 23 = 3 := by kernel_rfl
theorem list11 {α : Type} {l : List α} (h : l.length = 11) : ∃ a b c d e f g i j k m, l = [a, b, c, d, e, f, g, i, j, k, m] := by
  match l, h with
  | [a, b, c, d, e, f, g, i, j, k, m], _ => exact ⟨a, b, c, d, e, f, g, i, j, k, m, rfl⟩
theorem list4 {α : Type} {l : List α} (h : l.length = 4) : ∃ a b c d, l = [a, b, c, d] := by
  match l, h with
  | [a, b, c, d], _ => exact ⟨a, b, c, d, rfl⟩
theorem list3' {α : Type} {l : List α} (h : l.length = 3) : ∃ a b c, l = [a, b, c] := by
  match l, h with
  | [a, b, c], _ => exact ⟨a, b, c, rfl⟩
theorem wf64' {a : Int} (h : (Lit.int .i64 a).wf = true) : -9223372036854775808 ≤ a ∧ a ≤ 9223372036854775807 := by
  simpa [Lit.wf, IntKind.min, IntKind.max, IntKind.signed, IntKind.bits] using h

section
variable {H : Type} {enc : TypeId × Value → H} {w : World} {base : Nat} {spare : Nat → Bool} {held : Bool}

set_option maxRecDepth 10000 in
theorem open_op {fuel : Nat} {cs : List Value} {x : DataW H × List MemPlace} (h : DataW.trod enc Tryz.prog w base spare held fuel 45 cs = some x) :
    ∃ o : Oq, o.ok ∧ cs = o.cells.toList := by
  obtain ⟨xs, n, _, rfl, hl, hlen, hf⟩ := DataW.trod_struct Tryz.underlying45 h
  rw [cellsOp] at hl
  obtain ⟨c0, c1, c2, c3, c4, c5, c6, c7, c8, c9, c10, rfl⟩ := list11 hl
  obtain ⟨y0, y1, y2, y3, rfl⟩ := list4 hlen
  have f0 := hf 0 _ rfl
  have f1 := hf 1 _ rfl
  have f2 := hf 2 _ rfl
  have f3 := hf 3 _ rfl
  simp [cellsPacket, cellsString, cellsInt] at f0 f1 f2 f3
  obtain ⟨a, e0, d0, w0⟩ := DataW.trod_int Tryz.underlying3 f0
  obtain ⟨b, e1, d1, w1⟩ := DataW.trod_int Tryz.underlying3 f1
  obtain ⟨p, hp, hpb, e2, d2⟩ := open_pk f2
  obtain ⟨s, e3, d3, ws⟩ := DataW.trod_string Tryz.underlying9 f3
  simp at e0 e1 e3
  subst e0 e1 e3
  refine ⟨⟨a, b, p, s.data.toList⟩, ⟨wf64' w0, wf64' w1, hp, by simpa using ws⟩, ?_⟩
  simp only [Pk.cells, List.cons.injEq, and_true] at e2
  obtain ⟨rfl, rfl, rfl, rfl, rfl, rfl, rfl, rfl⟩ := e2
  simp [Oq.cells, bs_of]

theorem open_conf {fuel : Nat} {cs : List Value} {x : DataW H × List MemPlace} (h : DataW.trod enc Tryz.prog w base spare held fuel 23 cs = some x) :
    ∃ a k r : Int, cs = [.int .i64 a, .int .i64 k, .int .i64 r] := by
  obtain ⟨xs, n, _, rfl, hl, hlen, hf⟩ := DataW.trod_struct Tryz.underlying23 h
  rw [cellsConf] at hl
  obtain ⟨c0, c1, c2, rfl⟩ := list3' hl
  obtain ⟨y0, y1, y2, rfl⟩ := list3' hlen
  have f0 := hf 0 _ rfl
  have f1 := hf 1 _ rfl
  have f2 := hf 2 _ rfl
  simp [cellsInt] at f0 f1 f2
  obtain ⟨a, e0, d0, w0⟩ := DataW.trod_int Tryz.underlying3 f0
  obtain ⟨b, e1, d1, w1⟩ := DataW.trod_int Tryz.underlying3 f1
  obtain ⟨c, e2, d2, w2⟩ := DataW.trod_int Tryz.underlying3 f2
  simp at e0 e1 e2
  subst e0 e1 e2
  exact ⟨a, b, c, rfl⟩

theorem ops_data {fuel : Nat} {a : Option Addr} {len cap : Nat} {x : DataW H × List MemPlace} (h : DataW.trod enc Tryz.prog w base spare held fuel 24 (Value.slice a len cap).cells.toList = some x) :
    len = 0 ∨ ∃ es sp, x.1 = .slice es sp ∧ es.length = len := by
  rcases Go.Deep.open_slice Tryz.underlying24 h with ⟨hcs, _⟩ | ⟨a, len, cap, m, n, D, Pl, hcs, hb, hl, hm, hmm, hx, hel⟩
  · simp [Value.cells] at hcs
    exact Or.inl hcs.2.1
  · simp [Value.cells] at hcs
    obtain ⟨rfl, rfl, rfl⟩ := hcs
    exact Or.inr ⟨_, _, by rw [hx], by simp⟩

theorem open_ops {fuel : Nat} {v : Value} {x : DataW H × List MemPlace} (hv : ∃ a len cap, v = .slice a len cap) (h : DataW.trod enc Tryz.prog w base spare held fuel 24 v.cells.toList = some x) :
    ∃ (S : List Oq) (ao : Option Addr) (b off cap : Nat), OpsAt w v S ao b off cap ∧ S.length ≤ maxLen ∧ (∀ (i : Nat) (hi : i < S.length), (S[i]).ok) := by
  obtain ⟨a0, l0, c0, rfl⟩ := hv
  rcases Go.Deep.open_slice Tryz.underlying24 h with ⟨hcs, _⟩ | ⟨a, len, cap, m, n, D, Pl, hcs, hb, hl, hm, hmm, hx, hel⟩
  · simp [Value.cells] at hcs
    obtain ⟨rfl, rfl, rfl⟩ := hcs
    exact ⟨[], none, 0, 0, 0, ⟨rfl, fun h => by simp at h, fun i hi => by simp at hi⟩, by simp, fun i hi => by simp at hi⟩
  · simp [Value.cells] at hcs
    obtain ⟨rfl, rfl, rfl⟩ := hcs
    have hlm : l0 ≤ m := by rw [hmm]; split <;> omega
    have each : ∀ i, i < l0 → ∃ o : Oq, o.ok ∧ ∀ j, j < 11 → w.cell? (a.add (i * 11 + j)) = o.cells[j]? := by
      intro i hi
      obtain ⟨cs', h1, h2⟩ := hel i (by omega)
      rw [cellsOp] at h1
      obtain ⟨_, hlen, hcell⟩ := World.cells?_some h1
      obtain ⟨o, ho, rfl⟩ := open_op h2
      refine ⟨o, ho, fun j hj => ?_⟩
      have := hcell j hj
      rw [Go.Deep.add_add] at this
      rw [this]
      have hs : j < o.cells.size := hj
      simp [hs]
    have : Inhabited Oq := ⟨⟨0, 0, zeroP, []⟩⟩
    obtain ⟨q, hq⟩ := Go.Deep.choose_lt each
    have hll : ((List.range l0).map q).length = l0 := by simp
    have hget : ∀ i (hi : i < ((List.range l0).map q).length), ((List.range l0).map q)[i] = q i := fun i hi => by simp
    refine ⟨(List.range l0).map q, some a, a.block, a.off, c0, ⟨by rw [hll], fun h0 => ?_, fun i hi j hj => ?_⟩, by rw [hll]; omega, fun i hi => ?_⟩
    · rw [hll] at h0
      have hc := (hq 0 h0).2 0 (by omega)
      have hc := World.cell?_spot hc
      obtain ⟨b, o, s⟩ := a
      simp [Addr.add] at hc
      rw [hc]
    · rw [hget i hi]
      rw [hll] at hi
      have hc := (hq i hi).2 j hj
      have hs := World.cell?_spot ((hq 0 (by omega)).2 0 (by omega))
      obtain ⟨b, o, s⟩ := a
      simp [Addr.add] at hs
      subst hs
      rw [← hc, show ((⟨b, o, none⟩ : Addr).add (i * 11 + j)) = ⟨b, o + (i * 11 + j), none⟩ by simp [Addr.add], Nat.add_assoc]
    · rw [hget i hi]
      rw [hll] at hi
      exact (hq i hi).1
end

end Go.Proofs.YtgpojbgjfibblabGreat.texts

namespace Go.Proofs.YtgpojbgjfibblabGreat.texts.tx
open Go.RowKit
set_option linter.unusedVariables false
attribute [local go_sem] bs_size bs_append List.length_append bs_list bs_toList bs_extract

/-- where the lists were kept from: the world then, the book's lists then, its lists of flows, the blocks that kept lists may lie in -/
structure P0 where
  w0 : World
  T0 : Option Nat
  N0 : Option Nat
  vF : Value
  vM : Value
  G : Nat → Prop
  good : ∀ g, w0.heap.size ≤ g → G g
/-- a list all of whose texts are x -/
def KeptOk (w : World) (v : Value) (x : List UInt8) : Prop :=
  v = .slice none 0 0 ∨ ∃ g n cap cur, v = .slice (some ⟨g, 0, none⟩) n cap ∧ w.heap[g]? = some (.cells cur 9 (0, 0)) ∧ ∀ i, i < n → w.cell? ⟨g, i, none⟩ = some (.string (bs x))
theorem KeptOk.ty {w : World} {v : Value} {x : List UInt8} (h : KeptOk w v x) {g : Nat} (hg : v.ownBlock = some g) : ∃ cur, w.heap[g]? = some (.cells cur 9 (0, 0)) := by
  rcases h with rfl | ⟨g', n, cap, cur, rfl, h1, _⟩
  · simp [Value.ownBlock] at hg
  · simp [Value.ownBlock] at hg; subst hg; exact ⟨cur, h1⟩
theorem KeptOk.lt {w : World} {v : Value} {x : List UInt8} (h : KeptOk w v x) {g : Nat} (hg : v.ownBlock = some g) : g < w.heap.size := by
  obtain ⟨cur, hc⟩ := h.ty hg
  exact block_lt hc
theorem KeptOk.form {w : World} {v : Value} {x : List UInt8} (h : KeptOk w v x) : ∃ ao n cap, v = .slice ao n cap := by
  rcases h with rfl | ⟨g', n, cap, cur, rfl, h1, _⟩
  · exact ⟨_, _, _, rfl⟩
  · exact ⟨_, _, _, rfl⟩
theorem KeptOk.plain {w : World} {v : Value} {x : List UInt8} (h : KeptOk w v x) : texts.KeptOk w v x := by
  rcases h with rfl | ⟨g', n, cap, cur, rfl, h1, h2⟩
  · exact Or.inl rfl
  · exact Or.inr ⟨g', n, cap, rfl, block_lt h1, h2⟩
/-- a kept list stays while its block does -/
theorem KeptOk.keep {w w' : World} {v : Value} {x : List UInt8} (h : KeptOk w v x) (hz : w.heap.size ≤ w'.heap.size) (hb : ∀ g, v.ownBlock = some g → g < w.heap.size → w'.heap[g]? = w.heap[g]?) : KeptOk w' v x := by
  rcases h with rfl | ⟨g, n, cap, cur, rfl, h1, h2⟩
  · exact Or.inl rfl
  · have e := hb g rfl (block_lt h1)
    refine Or.inr ⟨g, n, cap, cur, rfl, by rw [e]; exact h1, fun i hi => ?_⟩
    rw [World.cell?_of_block (w := w) e]
    exact h2 i hi

/-- a list lies apart from the book's own memory -/
def ApartOf (p : P0) (v : Value) (gB : Nat) (vT vN : Value) : Prop := ∀ g, v.ownBlock = some g → g ≠ gB ∧ vT.ownBlock ≠ some g ∧ vN.ownBlock ≠ some g ∧ p.G g

/-- what has stayed since -/
structure Past (p : P0) (w : World) (gB : Nat) (vT vN : Value) : Prop where
  hz : p.w0.heap.size ≤ w.heap.size
  fr : ∀ k, k < p.w0.heap.size → k ≠ gB → p.T0 ≠ some k → p.N0 ≠ some k → w.heap[k]? = p.w0.heap[k]?
  tT : vT.ownBlock = p.T0 ∨ ∃ g, vT.ownBlock = some g ∧ p.w0.heap.size ≤ g
  tN : vN.ownBlock = p.N0 ∨ ∃ g, vN.ownBlock = some g ∧ p.w0.heap.size ≤ g
theorem Past.step {p : P0} {w w' : World} {gB : Nat} {vT vN vT' vN' : Value} (h : Past p w gB vT vN) (hz : w.heap.size ≤ w'.heap.size)
    (fr : ∀ k, k < w.heap.size → k ≠ gB → vT.ownBlock ≠ some k → vN.ownBlock ≠ some k → w'.heap[k]? = w.heap[k]?)
    (tT : vT'.ownBlock = vT.ownBlock ∨ ∃ g, vT'.ownBlock = some g ∧ w.heap.size ≤ g) (tN : vN'.ownBlock = vN.ownBlock ∨ ∃ g, vN'.ownBlock = some g ∧ w.heap.size ≤ g) : Past p w' gB vT' vN' := by
  have z := h.hz
  refine ⟨by omega, fun k hk h1 h2 h3 => ?_, ?_, ?_⟩
  · rw [fr k (by omega) h1 ?_ ?_]
    · exact h.fr k hk h1 h2 h3
    · rcases h.tT with e | ⟨g, e, hg⟩
      · rw [e]; exact h2
      · rw [e]; simp; omega
    · rcases h.tN with e | ⟨g, e, hg⟩
      · rw [e]; exact h3
      · rw [e]; simp; omega
  · rcases tT with e | ⟨g, e, hg⟩
    · rw [e]; exact h.tT
    · exact Or.inr ⟨g, e, by omega⟩
  · rcases tN with e | ⟨g, e, hg⟩
    · rw [e]; exact h.tN
    · exact Or.inr ⟨g, e, by omega⟩
theorem Past.same {p : P0} {w w' : World} {gB : Nat} {vT vN : Value} (h : Past p w gB vT vN) (hz : w.heap.size ≤ w'.heap.size) (fr : ∀ k, k < p.w0.heap.size → w'.heap[k]? = w.heap[k]?) : Past p w' gB vT vN := by
  have z := h.hz
  exact ⟨by omega, fun k hk h1 h2 h3 => by rw [fr k hk]; exact h.fr k hk h1 h2 h3, h.tT, h.tN⟩

/-- the book in memory -/
structure BookAt (p : P0) (B : Nat) (w : World) (gB : Nat) (vT vN : Value) (next : Int) (K : List (Value × List UInt8)) : Prop where
  blk : w.heap[gB]? = some (.cells #[p.vF, vT, p.vM, vN, .int .i64 next] 33 (0, 0))
  oT : w.ownsRow B 31 1 vT K.length (K.map (·.1))
  oN : w.ownsRow B 9 1 vN K.length (K.map fun e => .string (bs e.2))
  low : B ≤ gB
  kept : ∀ e ∈ K, KeptOk w e.1 e.2 ∧ ApartOf p e.1 gB vT vN
  past : Past p w gB vT vN

variable {p : P0}

/-- a step of the book's: what else lies in memory stays -/
structure BookStep (B : Nat) (w w' : World) (gB : Nat) (vT vN vT' vN' : Value) : Prop where
  below : Below B w w'
  frame : ∀ k, k < w.heap.size → k ≠ gB → vT.ownBlock ≠ some k → vN.ownBlock ≠ some k → w'.heap[k]? = w.heap[k]?
  tT : vT'.ownBlock = vT.ownBlock ∨ ∃ g, vT'.ownBlock = some g ∧ w.heap.size ≤ g
  tN : vN'.ownBlock = vN.ownBlock ∨ ∃ g, vN'.ownBlock = some g ∧ w.heap.size ≤ g

/-- the three blocks of the book are apart -/
theorem BookAt.sep {B : Nat} {w : World} {gB : Nat} {vT vN : Value} {next : Int} {K : List (Value × List UInt8)} (h : BookAt p B w gB vT vN next K) :
    vT.ownBlock ≠ some gB ∧ vN.ownBlock ≠ some gB ∧ ∀ g, vT.ownBlock = some g → vN.ownBlock ≠ some g := by
  have hT := h.oT
  have hN := h.oN
  have tT : ∀ g, vT.ownBlock = some g → ∃ cur, w.heap[g]? = some (.cells cur 31 (0, 0)) := by
    intro g hg
    rcases hT.2 with ⟨rfl, _⟩ | ⟨g', cap, cur, rfl, _, hh, _⟩
    · simp [Value.ownBlock] at hg
    · simp [Value.ownBlock] at hg; subst hg; exact ⟨cur, hh⟩
  have tN : ∀ g, vN.ownBlock = some g → ∃ cur, w.heap[g]? = some (.cells cur 9 (0, 0)) := by
    intro g hg
    rcases hN.2 with ⟨rfl, _⟩ | ⟨g', cap, cur, rfl, _, hh, _⟩
    · simp [Value.ownBlock] at hg
    · simp [Value.ownBlock] at hg; subst hg; exact ⟨cur, hh⟩
  refine ⟨fun e => ?_, fun e => ?_, fun g e1 e2 => ?_⟩
  · obtain ⟨cur, hc⟩ := tT gB e
    rw [h.blk] at hc; simp at hc
  · obtain ⟨cur, hc⟩ := tN gB e
    rw [h.blk] at hc; simp at hc
  · obtain ⟨c1, h1⟩ := tT g e1
    obtain ⟨c2, h2⟩ := tN g e2
    rw [h1] at h2; simp at h2

/-- half way: the texts are grown and stored -/
theorem book_mid {B : Nat} {w w1 : World} {gB : Nat} {vT vN vT' : Value} {next : Int} {K : List (Value × List UInt8)} {o : Obj} (hK : BookAt p B w gB vT vN next K) (hg : (w.alloc o).grownBy w1 vT.ownBlock) :
    w1.heap[gB]? = some (.cells #[p.vF, vT, p.vM, vN, .int .i64 next] 33 (0, 0)) ∧
    (w1.setCell ⟨gB, 1, none⟩ vT').heap[gB]? = some (.cells #[p.vF, vT', p.vM, vN, .int .i64 next] 33 (0, 0)) ∧
    (w1.setCell ⟨gB, 1, none⟩ vT').ownsRow B 9 1 vN K.length (K.map fun e => .string (bs e.2)) ∧ w.heap.size + 1 ≤ w1.heap.size := by
  obtain ⟨s1, s2, s3⟩ := hK.sep
  have hlt := block_lt hK.blk
  have b1 : w1.heap[gB]? = some (.cells #[p.vF, vT, p.vM, vN, .int .i64 next] 33 (0, 0)) := by
    rw [hg.block gB (by simp; omega) (fun e => s1 e.symm)]
    exact block_alloc hK.blk o
  refine ⟨b1, ?_, ?_, by have := hg.size; simp at this; omega⟩
  · have := block_put b1 1 vT'
    exact this
  · have h1 := (hK.oN.alloc o).kept hg (by
      cases e : vN.ownBlock with
      | none => exact Or.inl rfl
      | some g => exact Or.inr (fun e2 => s3 g e2.symm e))
    exact ownsRow_setCell_other h1 (fun e => s2 e) _

theorem book_four {B : Nat} {w w1 w4 : World} {gB : Nat} {vT vN vT' : Value} {next : Int} {K : List (Value × List UInt8)} {o1 o2 : Obj} (hK : BookAt p B w gB vT vN next K) (hg1 : (w.alloc o1).grownBy w1 vT.ownBlock)
    (hg2 : ((w1.setCell ⟨gB, 1, none⟩ vT').alloc o2).grownBy w4 vN.ownBlock) : w4.heap[gB]? = some (.cells #[p.vF, vT', p.vM, vN, .int .i64 next] 33 (0, 0)) := by
  obtain ⟨s1, s2, s3⟩ := hK.sep
  have hlt := block_lt hK.blk
  obtain ⟨m1, m2, m3, m4⟩ := book_mid (vT' := vT') hK hg1
  rw [hg2.block gB (by simp; omega) (fun e => s2 e.symm)]
  exact block_alloc m2 o2
theorem book_end {B : Nat} {w w1 w4 : World} {gB : Nat} {vT vN vT' vN' v : Value} {x : List UInt8} {next : Int} {K : List (Value × List UInt8)} {o1 o2 : Obj} (hK : BookAt p B w gB vT vN next K)
    (hv : KeptOk w v x) (hap : ApartOf p v gB vT vN)
    (hT1 : w1.ownsRow B 31 1 vT' (K.length + 1) (K.map (·.1) ++ [v])) (hg1 : (w.alloc o1).grownBy w1 vT.ownBlock) (hat1 : vT'.ownBlock = vT.ownBlock ∨ vT'.ownBlock = some (w.heap.size + 1))
    (hN1 : w4.ownsRow B 9 1 vN' (K.length + 1) ((K.map fun e => .string (bs e.2)) ++ [.string (bs x)])) (hg2 : ((w1.setCell ⟨gB, 1, none⟩ vT').alloc o2).grownBy w4 vN.ownBlock) (hat2 : vN'.ownBlock = vN.ownBlock ∨ vN'.ownBlock = some (w1.heap.size + 1)) :
    BookAt p B (w4.setCell ⟨gB, 3, none⟩ vN') gB vT' vN' next (K ++ [(v, x)]) ∧ BookStep B w (w4.setCell ⟨gB, 3, none⟩ vN') gB vT vN vT' vN' := by
  obtain ⟨s1, s2, s3⟩ := hK.sep
  have hlt := block_lt hK.blk
  obtain ⟨m1, m2, m3, m4⟩ := book_mid (vT' := vT') hK hg1
  have hsz2 : (w1.setCell ⟨gB, 1, none⟩ vT').heap.size = w1.heap.size := by simp
  have z4 : w1.heap.size + 1 ≤ w4.heap.size := by have := hg2.size; simp at this; omega
  -- blocks that neither step touches
  have fr : ∀ k, k < w.heap.size → k ≠ gB → vT.ownBlock ≠ some k → vN.ownBlock ≠ some k → (w4.setCell ⟨gB, 3, none⟩ vN').heap[k]? = w.heap[k]? := by
    intro k hk h1 h2 h3
    rw [Below.heap_setCell _ _ _ _ (by simpa using h1), hg2.block k (by simp; omega) (fun e => h3 e.symm), Below.heap_alloc _ _ _ (by rw [hsz2]; omega), Below.heap_setCell _ _ _ _ (by simpa using h1), hg1.block k (by simp; omega) (fun e => h2 e.symm), Below.heap_alloc _ _ _ hk]
  have tNlt : ∀ g, vN.ownBlock = some g → g < w.heap.size := fun g e => (own_lt hK.oN e).2
  have tTlt : ∀ g, vT.ownBlock = some g → g < w.heap.size := fun g e => (own_lt hK.oT e).2
  have aT : vT'.ownBlock ≠ some gB := by
    rcases hat1 with e | e
    · rw [e]; exact s1
    · rw [e]; simp; omega
  have aTN : ∀ g, vT'.ownBlock = some g → vN.ownBlock ≠ some g := by
    intro g e1 e2
    rcases hat1 with e | e
    · rw [e] at e1; exact s3 g e1 e2
    · rw [e] at e1; simp at e1; have := tNlt g e2; omega
  have aN : vN'.ownBlock ≠ some gB := by
    rcases hat2 with e | e
    · rw [e]; exact s2
    · rw [e]; simp; omega
  have low4 : ∀ k, k < B → w4.heap[k]? = w.heap[k]? := by
    intro k hk
    have hB := hK.low
    rw [hg2.block k (by simp; omega) (fun e => by have := (own_lt hK.oN e.symm).1; omega), Below.heap_alloc _ _ _ (by rw [hsz2]; omega), Below.heap_setCell _ _ _ _ (by simp; omega), hg1.block k (by simp; omega) (fun e => by have := (own_lt hK.oT e.symm).1; omega), Below.heap_alloc _ _ _ (by omega)]
  have hT2 : vT'.ownBlock = vT.ownBlock ∨ ∃ g, vT'.ownBlock = some g ∧ w.heap.size ≤ g := by
    rcases hat1 with e | e
    · exact Or.inl e
    · exact Or.inr ⟨_, e, by omega⟩
  have hN2 : vN'.ownBlock = vN.ownBlock ∨ ∃ g, vN'.ownBlock = some g ∧ w.heap.size ≤ g := by
    rcases hat2 with e | e
    · exact Or.inl e
    · exact Or.inr ⟨_, e, by omega⟩
  refine ⟨⟨?_, ?_, ?_, hK.low, ?_, hK.past.step (by simp; omega) fr hT2 hN2⟩, ⟨?_, fr, hT2, hN2⟩⟩
  · have b4 : w4.heap[gB]? = some (.cells #[p.vF, vT', p.vM, vN, .int .i64 next] 33 (0, 0)) := by
      rw [hg2.block gB (by simp; omega) (fun e => s2 e.symm)]
      exact block_alloc m2 o2
    exact block_put b4 3 vN'
  · rw [List.length_append, List.map_append]
    have h2 := ownsRow_setCell_other (a := ⟨gB, 1, none⟩) hT1 aT vT'
    have h3 := (h2.alloc o2).kept hg2 (by
      cases e : vT'.ownBlock with
      | none => exact Or.inl rfl
      | some g => exact Or.inr (fun e2 => aTN g e e2.symm))
    exact ownsRow_setCell_other (a := ⟨gB, 3, none⟩) h3 aT vN'
  · rw [List.length_append, List.map_append]
    exact ownsRow_setCell_other (a := ⟨gB, 3, none⟩) hN1 aN vN'
  · intro e he
    have both : KeptOk w e.1 e.2 ∧ ApartOf p e.1 gB vT vN := by
      rcases List.mem_append.1 he with h | h
      · exact hK.kept e h
      · simp at h; subst h; exact ⟨hv, hap⟩
    obtain ⟨k1, k2⟩ := both
    refine ⟨k1.keep (by simp; omega) (fun g hg hlt => fr g hlt (k2 g hg).1 (k2 g hg).2.1 (k2 g hg).2.2.1), fun g hg => ⟨(k2 g hg).1, ?_, ?_, (k2 g hg).2.2.2⟩⟩
    · have hgl := k1.lt hg
      rcases hat1 with e | e
      · rw [e]; exact (k2 g hg).2.1
      · rw [e]; simp; omega
    · have hgl := k1.lt hg
      rcases hat2 with e | e
      · rw [e]; exact (k2 g hg).2.2.1
      · rw [e]; simp; omega
  · refine ⟨?_, ?_, ?_, by simp; omega, fun k hk => ?_⟩
    · show w4.os = w.os; rw [hg2.os]; exact hg1.os
    · show w4.tape = w.tape; rw [hg2.tape]; exact hg1.tape
    · show w4.output = w.output; rw [hg2.output]; exact hg1.output
    · have hB := hK.low
      rw [Below.heap_setCell _ _ _ _ (by simp; omega)]; exact low4 k hk

set_option maxRecDepth 100000 in
set_option maxHeartbeats 1000000 in
theorem keeps_any (B : Nat) (w : World) (gB : Nat) (vT vN : Value) (next : Int) (K : List (Value × List UInt8)) (v : Value) (x : List UInt8) (hK : BookAt p B w gB vT vN next K) (hlen : K.length ≤ 1073741824)
    (hv : KeptOk w v x) (hap : ApartOf p v gB vT vN) :
    Calls Tryz.prog 66 #[.pointer (some ⟨gB, 0, none⟩), v, .string (bs x)] w fun e w' => e = .returned (.tuple #[]) ∧ ∃ vT' vN', BookAt p B w' gB vT' vN' next (K ++ [(v, x)]) ∧ BookStep B w w' gB vT vN vT' vN' := by
  obtain ⟨i0, hi, hz0, hz1, hz2⟩ := info_parts infoSl
  obtain ⟨i1, ki, kz0, kz1, kz2⟩ := info_parts infoS
  have HK := hide hK
  have c1 : w.cell? ⟨gB, 1, none⟩ = some vT := block_cell hK.blk 1
  have f1 : w.frozen? ⟨gB, 1, none⟩ = false := block_free hK.blk 1
  have hown := hK.oT
  have hlow := hK.low
  have hgB := block_lt hK.blk
  obtain ⟨ao, n, cap, rfl⟩ := hv.form
  have HV := hide hv
  have HAP := hide hap
  clear hK hv hap
  go_enter Tryz.func66, Tryz.ntmps66
  go_wp2_with (at_builtin; refine wpList_append_own_at _ rfl _ _ 30 rfl B 31 i0 (.slice none 0 0) 1 24 Tryz.underlying30 hi hz0 hz1 hz2 rfl (by decide) _ _ _ rfl (hown.alloc _) ⟨w.heap.size, 0, none⟩ 1 1 [.slice ao n cap] rfl rfl ?c1 ?c2 ?c3 ?c4 ?c5 ?_)
  case c1 =>
    intro j u hj
    match j, hj with
    | 0, hj => simp at hj; subst hj; simp [Addr.add]
  case c2 => first | (intro u hu; simp at hu; subst hu; rfl) | rfl
  case c3 => unfold maxLen; omega
  case c4 => omega
  case c5 => first | omega | (simp; omega)
  intro vT' w1 hT1 hg1 _ hat1
  obtain ⟨aoT, capT, rfl⟩ := own_slice hT1
  obtain ⟨m1, m2, m3, m4⟩ := book_mid (vT' := .slice aoT (K.length + 1) capT) (unhide HK) hg1
  have d1 : w1.cell? ⟨gB, 1, none⟩ = some vT := block_cell m1 1
  have d2 : w1.frozen? ⟨gB, 1, none⟩ = false := block_free m1 1
  have d3 : (w1.setCell ⟨gB, 1, none⟩ (.slice aoT (K.length + 1) capT)).cell? ⟨gB, 3, none⟩ = some vN := block_cell m2 3
  have d4 : (w1.setCell ⟨gB, 1, none⟩ (.slice aoT (K.length + 1) capT)).frozen? ⟨gB, 3, none⟩ = false := block_free m2 3
  have HT1 := hide hT1
  have Hg1 := hide hg1
  have Hat1 := hide hat1
  clear hT1 hg1 hat1 m1 m2 hown c1 f1
  go_wp2_with (at_builtin; refine wpList_append_own_at _ rfl _ _ 31 rfl B 9 i1 (.string ⟨#[]⟩) 1 16 Tryz.underlying31 ki kz0 kz1 kz2 rfl (by decide) _ _ _ rfl (m3.alloc _) ⟨w1.heap.size, 0, none⟩ 1 1 [.string (bs x)] rfl rfl ?e1 ?e2 ?e3 ?e4 ?e5 ?_)
  case e1 =>
    intro j u hj
    match j, hj with
    | 0, hj =>
      simp at hj
      subst hj
      exact new_after_set w1 _ _ _ _
  case e2 => first | (intro u hu; simp at hu; subst hu; rfl) | rfl
  case e3 => unfold maxLen; omega
  case e4 => omega
  case e5 => first | omega | (simp; omega)
  intro vN' w4 hN1 hg2 _ hat2
  obtain ⟨aoN, capN, rfl⟩ := own_slice hN1
  have b4 := book_four (unhide HK) (unhide Hg1) hg2
  have e3 : w4.cell? ⟨gB, 3, none⟩ = some vN := block_cell b4 3
  have e4 : w4.frozen? ⟨gB, 3, none⟩ = false := block_free b4 3
  have fin := hide (book_end (unhide HK) (unhide HV) (unhide HAP) (unhide HT1) (unhide Hg1) (unhide Hat1) hN1 hg2 hat2)
  clear b4 hN1 hg2 hat2 d1 d2 d3 d4 m3
  go_wp2
  go_end0
  exact ⟨rfl, _, _, (unhide fin).1, (unhide fin).2⟩

theorem BookAt.grew {B : Nat} {w w' : World} {gB : Nat} {vT vN : Value} {next : Int} {K : List (Value × List UInt8)} (h : BookAt p B w gB vT vN next K) (hb : Below w.heap.size w w') : BookAt p B w' gB vT vN next K :=
  ⟨block_keep h.blk hb, own_keep h.oT hb, own_keep h.oN hb, h.low, fun e he => ⟨(h.kept e he).1.keep hb.size (fun g _ hlt => hb.block g hlt), (h.kept e he).2⟩, h.past.same hb.size (fun k hk => hb.block k (Nat.lt_of_lt_of_le hk h.past.hz))⟩

/-- a write elsewhere: the book stays -/
theorem BookAt.other {B : Nat} {w w' : World} {gB : Nat} {vT vN : Value} {next : Int} {K : List (Value × List UInt8)} (h : BookAt p B w gB vT vN next K) (hz : w.heap.size ≤ w'.heap.size)
    (hs : ∀ k, k < w.heap.size → (k = gB ∨ vT.ownBlock = some k ∨ vN.ownBlock = some k) → w'.heap[k]? = w.heap[k]?) (hk : ∀ e ∈ K, KeptOk w' e.1 e.2) (hp : ∀ k, k < p.w0.heap.size → w'.heap[k]? = w.heap[k]?) : BookAt p B w' gB vT vN next K := by
  have own : ∀ {e : TypeId} {v : Value} {n : Nat} {xs : List Value}, w.ownsRow B e 1 v n xs → (∀ k, v.ownBlock = some k → w'.heap[k]? = w.heap[k]?) → w'.ownsRow B e 1 v n xs := by
    intro e v n xs ho hb
    refine ⟨ho.1, ?_⟩
    rcases ho.2 with h2 | ⟨g, cap, cur, rfl, hg, hh, r⟩
    · exact Or.inl h2
    · exact Or.inr ⟨g, cap, cur, rfl, hg, by rw [hb g rfl]; exact hh, r⟩
  refine ⟨by rw [hs gB (block_lt h.blk) (Or.inl rfl)]; exact h.blk, own h.oT (fun k e => hs k (own_lt h.oT e).2 (Or.inr (Or.inl e))), own h.oN (fun k e => hs k (own_lt h.oN e).2 (Or.inr (Or.inr e))), h.low, fun e he => ⟨hk e he, (h.kept e he).2⟩, h.past.same hz hp⟩

set_option maxRecDepth 100000 in
set_option maxHeartbeats 1000000 in
theorem mark_any (B : Nat) (w : World) (gB : Nat) (vT vN : Value) (next : Int) (K : List (Value × List UInt8)) (hK : BookAt p B w gB vT vN next K) (h0 : -1073741824 ≤ next) (h1 : next ≤ 1073741824) :
    Calls Tryz.prog 53 #[.pointer (some ⟨gB, 0, none⟩)] w fun e w' => e = .returned (.int .i64 (next - 1)) ∧ w' = w.setCell ⟨gB, 4, none⟩ (.int .i64 (next - 1)) := by
  have c1 : w.cell? ⟨gB, 4, none⟩ = some (.int .i64 next) := block_cell hK.blk 4
  have f1 : w.frozen? ⟨gB, 4, none⟩ = false := block_free hK.blk 4
  clear hK
  go_enter Tryz.func53, Tryz.ntmps53
  go_wp2
  go_ret
  exact ⟨rfl, rfl⟩
theorem mark_book {B : Nat} {w : World} {gB : Nat} {vT vN : Value} {next : Int} {K : List (Value × List UInt8)} (hK : BookAt p B w gB vT vN next K) (m : Int) : BookAt p B (w.setCell ⟨gB, 4, none⟩ (.int .i64 m)) gB vT vN m K := by
  obtain ⟨s1, s2, s3⟩ := hK.sep
  refine ⟨block_put hK.blk 4 _, ownsRow_setCell_other hK.oT s1 _, ownsRow_setCell_other hK.oN s2 _, hK.low, fun e he => ⟨(hK.kept e he).1.keep (by simp) (fun g hg hlt => Below.heap_setCell _ _ _ _ (by have := ((hK.kept e he).2 g hg).1; simpa using this)), (hK.kept e he).2⟩, hK.past.step (by simp) (fun k _ h1 _ _ => Below.heap_setCell _ _ _ _ (by simpa using h1)) (Or.inl rfl) (Or.inl rfl)⟩

/-- a list of the caller's that is written full, while the book takes it in: l, its texts all x; the lists in its block have x as their mark and are no longer than c -/
structure Hold (p : P0) (B : Nat) (w : World) (gB : Nat) (vT vN : Value) (next : Int) (K : List (Value × List UInt8)) (l : Value) (n c : Nat) (x : List UInt8) : Prop where
  book : BookAt p B w gB vT vN next K
  own : w.ownsRow B 9 1 l n (reps n x)
  apart : ApartOf p l gB vT vN
  ln : ∀ g, l.ownBlock = some g → p.w0.heap.size ≤ g
  same : ∀ e ∈ K, ∀ g, l.ownBlock = some g → e.1.ownBlock = some g → e.2 = x ∧ ∃ n' cap', e.1 = .slice (some ⟨g, 0, none⟩) n' cap' ∧ n' ≤ c

/-- what is owned and all x may be kept -/
theorem kept_own {w : World} {B : Nat} {v : Value} {n : Nat} {x : List UInt8} (h : w.ownsRow B 9 1 v n (reps n x)) : KeptOk w v x := by
  rcases h.2 with ⟨rfl, rfl⟩ | ⟨g, cap, cur, rfl, hb, hg, r⟩
  · exact Or.inl rfl
  · exact Or.inr ⟨g, n, cap, cur, rfl, hg, fun i hi => by rw [h.cellAt i (by omega), reps_at hi]⟩

/-- the append finds room: the same block -/
theorem hold_fits {B : Nat} {w w1 : World} {gB g : Nat} {vT vN : Value} {next : Int} {K : List (Value × List UInt8)} {n m c cap : Nat} {x : List UInt8} {o : Obj}
    (h : Hold p B w gB vT vN next K (.slice (some ⟨g, 0, none⟩) n cap) n c x) (hc : c ≤ n + m) (hcap : n + m ≤ cap)
    (ho : w1.ownsRow B 9 1 (.slice (some ⟨g, 0, none⟩) (n + m) cap) (n + m) (reps n x ++ reps m x)) (hg : (w.alloc o).grownBy w1 (some g)) :
    Hold p B w1 gB vT vN next K (.slice (some ⟨g, 0, none⟩) n cap) n (n + m) x ∧ KeptOk w1 (.slice (some ⟨g, 0, none⟩) (n + m) cap) x ∧ ApartOf p (.slice (some ⟨g, 0, none⟩) (n + m) cap) gB vT vN := by
  have er : reps n x ++ reps m x = reps (n + m) x := by unfold reps; rw [List.replicate_append_replicate]
  rw [er] at ho
  have hz : w.heap.size ≤ w1.heap.size := by have := hg.size; simp at this; omega
  have hap := h.apart g rfl
  have cells : ∀ i, i < n + m → w1.cell? ⟨g, i, none⟩ = some (.string (bs x)) := fun i hi => by rw [ho.cellAt i (by omega), reps_at hi]
  obtain ⟨cu, glt⟩ := own_ty ho rfl
  have hln := h.ln g rfl
  refine ⟨⟨?_, ?_, h.apart, h.ln, fun e he g' h1 h2 => ?_⟩, kept_own ho, fun g' hg' => h.apart g' (by simpa [Value.ownBlock] using hg')⟩
  · refine h.book.other hz (fun k hk hs => ?_) (fun e he => ?_) (fun k hk => by have := h.book.past.hz; rw [hg.block k (by simp; omega) (by simp; omega), Below.heap_alloc _ _ _ (by omega)])
    · have hne : k ≠ g := by
        rcases hs with rfl | hs | hs
        · exact fun e => hap.1 e.symm
        · intro e; subst e; exact hap.2.1 hs
        · intro e; subst e; exact hap.2.2.1 hs
      rw [hg.block k (by simp; omega) (by simpa using hne), Below.heap_alloc _ _ _ hk]
    · have hk := (h.book.kept e he).1
      by_cases hb : e.1.ownBlock = some g
      · obtain ⟨e2, n', cap', ev, hn'⟩ := h.same e he g rfl hb
        rw [ev, e2]
        exact Or.inr ⟨g, n', cap', cu, rfl, glt, fun i hi => cells i (by omega)⟩
      · exact hk.keep hz (fun g' hg' hlt => by
          have hne : g' ≠ g := fun e' => hb (by rw [hg', e'])
          rw [hg.block g' (by simp; omega) (by simpa using hne), Below.heap_alloc _ _ _ hlt])
  · rcases ho.2 with ⟨h0, _⟩ | ⟨g', cap', cur, hv, hb, hh, hnc, hcm, hcs, htake⟩
    · simp at h0
    · simp only [Value.slice.injEq, Option.some.injEq, Addr.mk.injEq, and_true, true_and] at hv
      obtain ⟨rfl, rfl⟩ := hv
      refine ⟨by simp [reps], Or.inr ⟨g, cap, cur, rfl, hb, hh, by omega, hcm, hcs, ?_⟩⟩
      have := congrArg (List.take (n * 1)) htake
      rw [List.take_take, Nat.min_eq_left (by omega)] at this
      rw [this]
      unfold reps
      rw [List.take_replicate, Nat.min_eq_left (by omega), Nat.mul_one]
  · obtain ⟨e2, n', cap', ev, hn'⟩ := h.same e he g' h1 h2
    exact ⟨e2, n', cap', ev, by omega⟩

/-- the append makes a new block -/
theorem hold_grows {B : Nat} {w w1 : World} {gB : Nat} {vT vN l v' : Value} {next : Int} {K : List (Value × List UInt8)} {n m c : Nat} {x : List UInt8} {o : Obj}
    (h : Hold p B w gB vT vN next K l n c x) (ho : w1.ownsRow (w.alloc o).heap.size 9 1 v' (n + m) (reps n x ++ reps m x)) (hg : (w.alloc o).grownBy w1 none) :
    Hold p B w1 gB vT vN next K l n c x ∧ KeptOk w1 v' x ∧ ApartOf p v' gB vT vN ∧ (∀ g, l.ownBlock = some g → v'.ownBlock ≠ some g) := by
  have er : reps n x ++ reps m x = reps (n + m) x := by unfold reps; rw [List.replicate_append_replicate]
  rw [er] at ho
  have hbel : Below w.heap.size w w1 := ((Below.refl _ _).alloc (Nat.le_refl _) o).grown hg (by simp) (fun k hk => by cases hk)
  have new : ∀ g, v'.ownBlock = some g → w.heap.size < g := fun g e => by have := (own_lt ho e).1; simp at this; omega
  refine ⟨⟨h.book.grew hbel, own_keep h.own hbel, h.apart, h.ln, h.same⟩, kept_own ho, fun g e => ?_, fun g e1 e2 => ?_⟩
  · have := new g e
    refine ⟨fun e' => ?_, fun e' => ?_, fun e' => ?_, p.good g (by have := h.book.past.hz; omega)⟩
    · have := block_lt h.book.blk; omega
    · have := (own_lt h.book.oT e').2; omega
    · have := (own_lt h.book.oN e').2; omega
  · have := new g e2
    have := (own_lt h.own e1).2
    omega

/-- the book has taken a list in -/
theorem hold_keep {B : Nat} {w w1 : World} {gB : Nat} {vT vN vT' vN' l v : Value} {next : Int} {K : List (Value × List UInt8)} {n c : Nat} {x : List UInt8}
    (h : Hold p B w gB vT vN next K l n c x) (hb : BookAt p B w1 gB vT' vN' next (K ++ [(v, x)])) (hs : BookStep B w w1 gB vT vN vT' vN')
    (hv : ∀ g, l.ownBlock = some g → v.ownBlock = some g → ∃ n' cap', v = .slice (some ⟨g, 0, none⟩) n' cap' ∧ n' ≤ c) : Hold p B w1 gB vT' vN' next (K ++ [(v, x)]) l n c x := by
  have hl : ∀ g, l.ownBlock = some g → w1.heap[g]? = w.heap[g]? := fun g e => hs.frame g (own_lt h.own e).2 (h.apart g e).1 (h.apart g e).2.1 (h.apart g e).2.2.1
  refine ⟨hb, ?_, fun g e => ⟨(h.apart g e).1, ?_, ?_, (h.apart g e).2.2.2⟩, h.ln, fun e he g h1 h2 => ?_⟩
  · refine ⟨h.own.1, ?_⟩
    rcases h.own.2 with h2 | ⟨g, cap, cur, rfl, hg, hh, r⟩
    · exact Or.inl h2
    · exact Or.inr ⟨g, cap, cur, rfl, hg, by rw [hl g rfl]; exact hh, r⟩
  · rcases hs.tT with e' | ⟨g', e', hg'⟩
    · rw [e']; exact (h.apart g e).2.1
    · rw [e']; have := (own_lt h.own e).2; simp; omega
  · rcases hs.tN with e' | ⟨g', e', hg'⟩
    · rw [e']; exact (h.apart g e).2.2.1
    · rw [e']; have := (own_lt h.own e).2; simp; omega
  · rcases List.mem_append.1 he with h3 | h3
    · exact h.same e h3 g h1 h2
    · simp at h3; subst h3
      obtain ⟨n', cap', e1, e2⟩ := hv g h1 h2
      exact ⟨rfl, n', cap', e1, e2⟩

theorem Hold.more {B : Nat} {w : World} {gB : Nat} {vT vN l : Value} {next : Int} {K : List (Value × List UInt8)} {n c c' : Nat} {x : List UInt8} (h : Hold p B w gB vT vN next K l n c x) (hc : c ≤ c') : Hold p B w gB vT vN next K l n c' x :=
  ⟨h.book, h.own, h.apart, h.ln, fun e he g a b => by obtain ⟨e1, n', cap', e2, e3⟩ := h.same e he g a b; exact ⟨e1, n', cap', e2, by omega⟩⟩

/-- an append of m marks to the list: wherever it lies then -/
theorem append_hold {B : Nat} {w0 : World} {gB : Nat} {vT vN l : Value} {next : Int} {K : List (Value × List UInt8)} {n c m : Nat} {x : List UInt8} (hH : Hold p B w0 gB vT vN next K l n c x) (hc : c ≤ n + m) (hm : 0 < m) (hnm : n + m ≤ 1000000)
    {ops : Array Oper} {rest : List Oper} {o : Oper} {a : Act} {Q : Exit → Act → World → Prop} (hgd : o.guard = none) (s y : Operand)
    (ho : o.op = Op.call { callee := Callee.builtin Builtin.append, args := #[s, y], argTypes := #[31, 31] }) (hs : a.eval s = l) (cells : Array Value) (hcs : cells.toList = reps m x) (hy : a.eval y = .slice (some ⟨w0.heap.size, 0, none⟩) m m)
    (h : ∀ v' w', Hold p B w' gB vT vN next K l n (n + m) x → KeptOk w' v' x → ApartOf p v' gB vT vN → (∀ g, l.ownBlock = some g → v'.ownBlock = some g → ∃ n' cap', v' = .slice (some ⟨g, 0, none⟩) n' cap' ∧ n' ≤ n + m) → Below B w0 w' → (∃ ao cap, v' = .slice ao (n + m) cap) → wpList Tryz.prog ops Q rest (a.put o.dst v') w') :
    wpList Tryz.prog ops Q (o :: rest) a (w0.alloc (.cells cells 9)) := by
  obtain ⟨i1, ki, kz0, kz1, kz2⟩ := info_parts infoS
  have hB0 : B ≤ w0.heap.size := by have := block_lt hH.book.blk; have := hH.book.low; omega
  have hb0 : Below B w0 (w0.alloc (.cells cells 9)) := (Below.refl _ _).alloc hB0 _
  have hnews : ∀ j u, (reps m x)[j]? = some u → (w0.alloc (.cells cells 9)).cell? ((⟨w0.heap.size, 0, none⟩ : Addr).add j) = some u := by
    intro j u hj
    rw [show ((⟨w0.heap.size, 0, none⟩ : Addr).add j) = ⟨w0.heap.size, j, none⟩ by simp [Addr.add]; omega, block_cell (heap_alloc_new w0 _) j, ← hj, ← hcs]
    simp
  have hlen : (reps m x).length = m * 1 := by simp [reps]
  have honec : ∀ u ∈ reps m x, u.oneCell' = true := by
    intro u hu
    unfold reps at hu
    obtain ⟨_, rfl⟩ := List.mem_replicate.1 hu
    rfl
  have grows : ∀ ao cap, l = .slice ao n cap → (ao = none → n = 0 ∧ cap = 0) → cap < n + m → (∀ b, ao = some b → ∀ j u, (reps n x)[j]? = some u → (w0.alloc (.cells cells 9)).cell? (b.add j) = some u) →
      wpList Tryz.prog ops Q (o :: rest) a (w0.alloc (.cells cells 9)) := by
    intro ao cap hl hnone hfull hold
    refine wpList_append_grows (P := Tryz.prog) _ hgd s y 31 ho 9 i1 (.string ⟨#[]⟩) 1 16 Tryz.underlying31 ki kz0 kz1 kz2 rfl (by decide) ao n cap (reps n x) (hs.trans hl) hnone (by simp [reps]) hold ⟨w0.heap.size, 0, none⟩ m m (reps m x) hy hlen hnews honec hfull (by unfold maxLen; omega) (by omega) ?_
    intro v' w' ho' hg'
    obtain ⟨r1, r2, r3, r4⟩ := hold_grows hH ho' hg'
    exact h v' w' (r1.more hc) r2 r3 (fun g e1 e2 => absurd e2 (r4 g e1)) (hb0.grown hg' (by simp; omega) (fun k hk => by cases hk)) (own_slice ho')
  rcases hH.own.2 with ⟨hl, hn0⟩ | ⟨g, cap, cur, hl, hb, hg, hnc, r⟩
  · subst hn0
    exact grows none 0 hl (fun _ => ⟨rfl, rfl⟩) (by omega) (fun b hb => by cases hb)
  · by_cases hfit : n + m ≤ cap
    · subst hl
      refine wpList_append_fits (P := Tryz.prog) _ hgd s y 31 ho B 9 i1 1 Tryz.underlying31 ki kz1 g n cap (reps n x) hs (hH.own.alloc _) ⟨w0.heap.size, 0, none⟩ m m (reps m x) hy hlen hnews honec hfit ?_
      intro w' ho' hg'
      obtain ⟨r1, r2, r3⟩ := hold_fits hH hc hfit ho' hg'
      exact h _ w' r1 r2 r3 (fun g' e1 e2 => by simp [Value.ownBlock] at e1; subst e1; exact ⟨n + m, cap, rfl, Nat.le_refl _⟩) (hb0.grown hg' (by simp; omega) (fun k hk => by simp at hk; subst hk; exact hb)) ⟨_, _, rfl⟩
    · refine grows (some ⟨g, 0, none⟩) cap hl (fun e => by cases e) (by omega) (fun b hb' j u hj => ?_)
      simp at hb'
      subst hb'
      have hjn : j < n := by have := (List.getElem?_eq_some_iff.1 hj).1; simpa [reps] using this
      subst hl
      rw [show ((⟨g, 0, none⟩ : Addr).add j) = ⟨g, j, none⟩ by simp [Addr.add]; omega, (hH.own.alloc _).cellAt j (by omega)]
      exact hj

theorem fill_book {B : Nat} {w : World} {gB g : Nat} {vT vN : Value} {next : Int} {K : List (Value × List UInt8)} (h : BookAt p B w gB vT vN next K) (hl : g ≠ gB ∧ vT.ownBlock ≠ some g ∧ vN.ownBlock ≠ some g ∧ p.G g) (hN : p.w0.heap.size ≤ g) (hk : ∀ e ∈ K, e.1.ownBlock ≠ some g) (i : Nat) (v : Value) :
    BookAt p B (w.setCell ⟨g, i, none⟩ v) gB vT vN next K := by
  have st : ∀ k, k ≠ g → (w.setCell ⟨g, i, none⟩ v).heap[k]? = w.heap[k]? := fun k hk => Below.heap_setCell _ _ _ _ (by simpa using hk)
  refine h.other (by simp) (fun k _ hs => st k ?_) (fun e he => (h.kept e he).1.keep (by simp) (fun g' hg' _ => st g' (fun e' => hk e he (by rw [hg', e'])))) (fun k hk => st k (by omega))
  rcases hs with rfl | hs | hs
  · exact fun e => hl.1 e.symm
  · intro e; subst e; exact hl.2.1 hs
  · intro e; subst e; exact hl.2.2.1 hs

set_option maxRecDepth 100000 in
set_option maxHeartbeats 4000000 in
theorem holds_any (B : Nat) (w : World) (gB : Nat) (vT vN : Value) (next : Int) (K : List (Value × List UInt8)) (l : Value) (n : Nat) (xs : List Value) (hK : BookAt p B w gB vT vN next K) (hlen : K.length ≤ 536870912) (h0 : -536870912 ≤ next) (h1 : next ≤ 536870912)
    (hl : w.ownsRow B 9 1 l n xs) (hn : n ≤ 8) (hap : ApartOf p l gB vT vN) (hln : ∀ g, l.ownBlock = some g → p.w0.heap.size ≤ g) (hkl : ∀ e ∈ K, ∀ g, l.ownBlock = some g → e.1.ownBlock ≠ some g) :
    Calls Tryz.prog 40 #[.pointer (some ⟨gB, 0, none⟩), l] w fun e w' => e = .returned (.tuple #[]) ∧ ∃ vT' vN' K', BookAt p B w' gB vT' vN' (next - 1) K' ∧ K'.length = K.length + 4 ∧ (Shorts K → Shorts K') ∧ Below B w w' := by
  obtain ⟨i1, ki, kz0, kz1, kz2⟩ := info_parts infoS
  obtain ⟨ao, cap, rfl⟩ := own_slice hl
  have HK := hide hK
  have HL := hide hl
  have HAP := hide hap
  have HKL := hide hkl
  have HLN := hide hln
  have hlow := hK.low
  have hxs := hide hl.1
  clear hK hl hap hkl hln
  go_enter Tryz.func40, Tryz.ntmps40
  go_wp2_with fail
  refine (mark_any B w gB vT vN next K (unhide HK) (by omega) (by omega)).mono ?_
  rintro e w1 ⟨rfl, hw1⟩
  have k1 : BookAt p B w1 gB vT vN (next - 1) K := by rw [hw1]; exact mark_book (unhide HK) _
  have l1 : w1.ownsRow B 9 1 (.slice ao n cap) n xs := by rw [hw1]; exact ownsRow_setCell_other (unhide HL) (fun e => (unhide HAP gB e).1 rfl) _
  have b1 : Below B w w1 := by rw [hw1]; exact (Below.refl B w).setCell hlow _
  have B1 := hide b1
  have K1 := hide k1
  have L1 := hide l1
  clear hw1 k1 l1 b1 HK HL
  go_wp2_with fail
  refine (name_any _ _ (by omega) (by omega)).mono ?_
  rintro e w2 ⟨x, rfl, hb2⟩
  have K2 := hide ((unhide K1).grew hb2)
  have L2 := hide (own_keep (unhide L1) hb2)
  have hBw1 : B ≤ w1.heap.size := by have := block_lt (unhide K1).blk; omega
  have B2 := hide ((unhide B1).trans (hb2.mono hBw1))
  clear hb2 K1 L1 B1 hBw1
  go_wp2_with fail
  go_loopw [5] (fun i wr => ∃ k : Nat, k ≤ n ∧ i = .int .i64 k ∧ wr.ownsRow B 9 1 (.slice ao n cap) n (reps k x ++ xs.drop k) ∧ BookAt p B wr gB vT vN (next - 1) K ∧ Below B w wr) (fun i _ => n - (intOf i).toNat)
  case atStart => exact ⟨0, by omega, rfl, by simpa [reps] using unhide L2, unhide K2, unhide B2⟩
  case round =>
    obtain ⟨k, hk, rfl, hown, hbook, hbel⟩ := hrel
    clear K2 L2 B2
    by_cases hlt : k < n
    · obtain ⟨g, rfl⟩ : ∃ g, ao = some ⟨g, 0, none⟩ := by
        rcases hown.2 with ⟨h3, h4⟩ | ⟨g, cap', cur, h3, _⟩
        · omega
        · simp at h3; exact ⟨g, h3.1⟩
      have hxl : xs.length = n := by have := unhide hxs; omega
      have hc : ∃ u, w.cell? ⟨0, 0, none⟩ = u := ⟨_, rfl⟩
      obtain ⟨u0, hcell⟩ : ∃ u0, wr.cell? ⟨g, k, none⟩ = some u0 := by
        rw [hown.cellAt k (by omega)]
        exact ⟨_, List.getElem?_eq_getElem (by simp [reps]; omega)⟩
      have hfz := hown.frozenAt k
      have hst := hide ((hown.stored k (.string (bs x))).1)
      rw [fill_set xs k n x hlt hxl] at hst
      have hge := hide (own_lt hown rfl).1
      have KB := hide (fill_book hbook (unhide HAP g rfl) (unhide HLN g rfl) (fun e he => unhide HKL e he g rfl) k (.string (bs x)))
      have BB := hide hbel
      clear hown hbook hbel hc
      go_wp2
      go_roundw
      case rel => exact ⟨k + 1, by omega, by go_num, unhide hst, unhide KB, (unhide BB).setCell (p := ⟨g, k, none⟩) (unhide hge) _⟩
      case measure => simp [intOf]; omega
    · have e : n = k := by omega
      subst e
      have hd : xs.drop n = [] := List.drop_of_length_le (by have := unhide hxs; omega)
      rw [hd, List.append_nil] at hown
      have H0 : Hid (Hold p B wr gB vT vN (next - 1) K (.slice ao n cap) n n x) := ⟨hbook, hown, unhide HAP, unhide HLN, fun e he g a1 a2 => absurd a2 (unhide HKL e he g a1)⟩
      have BB := hide hbel
      clear hown hbook hbel hd
      go_wp2_with fail
      refine (keeps_any B wr gB vT vN _ K _ x (unhide H0).book (by omega) (kept_own (unhide H0).own) (unhide H0).apart).mono ?_
      rintro e w3 ⟨rfl, vT3, vN3, hb3, hs3⟩
      have H3 := hide (hold_keep (unhide H0) hb3 hs3 (fun g a1 a2 => by simp [Value.ownBlock] at a1; rcases (unhide H0).own.2 with ⟨h3, h4⟩ | ⟨g', cap', cur, h3, _⟩ <;> simp at h3 <;> simp_all))
      have B3 := hide ((unhide BB).trans hs3.below)
      clear hb3 hs3 H0 BB
      go_wp2_with (at_builtin; refine append_hold (m := 1) (unhide H3) (by omega) (by omega) (by omega) rfl _ _ rfl rfl _ rfl rfl ?_; rintro v4 w4 h4 k4 a4 p4 b4 ⟨ao4, cap4, rfl⟩; have H4 := hide h4; have KK4 := hide k4; have AA4 := hide a4; have PP4 := hide p4; have B4 := hide (Below.trans (unhide B3) b4); clear h4 k4 a4 p4 b4)
      clear H3 B3
      refine (keeps_any B w4 gB _ _ _ _ _ x (unhide H4).book (by simp; omega) (unhide KK4) (unhide AA4)).mono ?_
      rintro e w5 ⟨rfl, vT5, vN5, hb5, hs5⟩
      have H5 := hide (hold_keep (unhide H4) hb5 hs5 (unhide PP4))
      have B5 := hide ((unhide B4).trans hs5.below)
      clear hb5 hs5 H4 KK4 AA4 PP4 B4
      go_wp2_with (at_builtin; refine append_hold (m := 2) (unhide H5) (by omega) (by omega) (by omega) rfl _ _ rfl rfl _ rfl rfl ?_; rintro v6 w6 h6 k6 a6 p6 b6 ⟨ao6, cap6, rfl⟩; have H6 := hide h6; have KK6 := hide k6; have AA6 := hide a6; have PP6 := hide p6; have B6 := hide (Below.trans (unhide B5) b6); clear h6 k6 a6 p6 b6)
      clear H5 B5
      refine (keeps_any B w6 gB _ _ _ _ _ x (unhide H6).book (by simp; omega) (unhide KK6) (unhide AA6)).mono ?_
      rintro e w7 ⟨rfl, vT7, vN7, hb7, hs7⟩
      have H7 := hide (hold_keep (unhide H6) hb7 hs7 (unhide PP6))
      have B7 := hide ((unhide B6).trans hs7.below)
      clear hb7 hs7 H6 KK6 AA6 PP6 B6
      go_wp2_with (at_builtin; refine append_hold (m := 3) (unhide H7) (by omega) (by omega) (by omega) rfl _ _ rfl rfl _ rfl rfl ?_; rintro v8 w8 h8 k8 a8 p8 b8 ⟨ao8, cap8, rfl⟩; have H8 := hide h8; have KK8 := hide k8; have AA8 := hide a8; have PP8 := hide p8; have B8 := hide (Below.trans (unhide B7) b8); clear h8 k8 a8 p8 b8)
      clear H7 B7
      refine (keeps_any B w8 gB _ _ _ _ _ x (unhide H8).book (by simp; omega) (unhide KK8) (unhide AA8)).mono ?_
      rintro e w9 ⟨rfl, vT9, vN9, hb9, hs9⟩
      have H9 := hide (hold_keep (unhide H8) hb9 hs9 (unhide PP8))
      have B9 := hide ((unhide B8).trans hs9.below)
      clear hb9 hs9 H8 KK8 AA8 PP8 B8
      go_wp2
      go_end0
      exact ⟨rfl, _, _, _, (unhide H9).book, by simp, fun hs => (((hs.add ⟨_, _, _, rfl, by omega⟩).add ⟨_, _, _, rfl, by omega⟩).add ⟨_, _, _, rfl, by omega⟩).add ⟨_, _, _, rfl, by omega⟩, unhide B9⟩

end Go.Proofs.YtgpojbgjfibblabGreat.texts.tx
