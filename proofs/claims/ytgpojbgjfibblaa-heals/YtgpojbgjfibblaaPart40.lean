/-
  A packet among the arguments, opened: its cells, and that its numbers have their widths. A list of steps among the arguments, opened. A line that heals, in plain numbers: how long ago a context's last whole frame was; contexts that stand where the sender stands. One step of a script: its packet, its frame, what becomes of the line.
  Conditions stand in each theorem.
-/
import Derived.Test.YtgpojbgjfibblaaPart2
import Derived.ProofKit
import Derived.OpenShut
import Derived.Test.YtgpojbgjfibblaaPart23
import Derived.Test.YtgpojbgjfibblaaPart38
import Derived.Deep.Slices
import Derived.Test.YtgpojbgjfibblaaKeepBegun
import Derived.Test.YtgpojbgjfibblaaKeepPk
import Derived.Test.YtgpojbgjfibblaaHearWalk
namespace Go.Proofs.Ytgpojbgjfibblaa.texts
open Go.RowKit
set_option linter.unusedVariables false

theorem cellsPacket : Try.prog.cellsOf 51 = 8 := by kernel_rfl
theorem cellsRoute : Try.prog.cellsOf 49 = 3 := by kernel_rfl
theorem cells8' : Try.prog.cellsOf 5 = 1 := by kernel_rfl
theorem cells16 : Try.prog.cellsOf 27 = 1 := by kernel_rfl
theorem cells32 : Try.prog.cellsOf 32 = 1 := by kernel_rfl
theorem cellsInt : Try.prog.cellsOf 3 = 1 := by kernel_rfl
theorem cellsString : Try.prog.cellsOf 9 = 1 := by kernel_rfl

theorem wf8 {a : Int} (h : (Lit.int .u8 a).wf = true) : ∃ n : Nat, a = n ∧ n < 256 := by
  have h : 0 ≤ a ∧ a ≤ 255 := by simpa [Lit.wf, IntKind.min, IntKind.max, IntKind.signed, IntKind.bits] using h
  exact ⟨a.toNat, by omega, by omega⟩
theorem wf16 {a : Int} (h : (Lit.int .u16 a).wf = true) : ∃ n : Nat, a = n ∧ n < 65536 := by
  have h : 0 ≤ a ∧ a ≤ 65535 := by simpa [Lit.wf, IntKind.min, IntKind.max, IntKind.signed, IntKind.bits] using h
  exact ⟨a.toNat, by omega, by omega⟩
theorem wf32 {a : Int} (h : (Lit.int .u32 a).wf = true) : ∃ n : Nat, a = n ∧ n < 4294967296 := by
  have h : 0 ≤ a ∧ a ≤ 4294967295 := by simpa [Lit.wf, IntKind.min, IntKind.max, IntKind.signed, IntKind.bits] using h
  exact ⟨a.toNat, by omega, by omega⟩

theorem list8 {α : Type} {l : List α} (h : l.length = 8) : ∃ a b c d e f g i, l = [a, b, c, d, e, f, g, i] := by
  match l, h with
  | [a, b, c, d, e, f, g, i], _ => exact ⟨a, b, c, d, e, f, g, i, rfl⟩
theorem list6 {α : Type} {l : List α} (h : l.length = 6) : ∃ a b c d e f, l = [a, b, c, d, e, f] := by
  match l, h with
  | [a, b, c, d, e, f], _ => exact ⟨a, b, c, d, e, f, rfl⟩

section
variable {H : Type} {enc : TypeId × Value → H} {w : World} {base : Nat} {spare : Nat → Bool} {held : Bool}

theorem open_route {fuel : Nat} {c0 c1 c2 : Value} {x : DataW H × List MemPlace} (h : DataW.trod enc Try.prog w base spare held fuel 49 [c0, c1, c2] = some x) :
    ∃ a b c : Nat, a < 4294967296 ∧ b < 4294967296 ∧ c < 65536 ∧ c0 = .int .u32 a ∧ c1 = .int .u32 b ∧ c2 = .int .u16 c ∧ x.1 = .agg [.lit (.int .u32 a), .lit (.int .u32 b), .lit (.int .u16 c)] := by
  obtain ⟨xs, n, _, rfl, hl, hlen, hf⟩ := DataW.trod_struct Try.underlying49 h
  match xs, hlen with
  | [y0, y1, y2], _ =>
    have f0 := hf 0 _ rfl
    have f1 := hf 1 _ rfl
    have f2 := hf 2 _ rfl
    simp [cells32, cells16] at f0 f1 f2
    obtain ⟨a, e0, d0, wa⟩ := DataW.trod_int Try.underlying32 f0
    obtain ⟨b, e1, d1, wb⟩ := DataW.trod_int Try.underlying32 f1
    obtain ⟨c, e2, d2, wc⟩ := DataW.trod_int Try.underlying27 f2
    obtain ⟨a, rfl, ha⟩ := wf32 wa
    obtain ⟨b, rfl, hb⟩ := wf32 wb
    obtain ⟨c, rfl, hc⟩ := wf16 wc
    simp at e0 e1 e2
    exact ⟨a, b, c, ha, hb, hc, e0, e1, e2, by simp [d0, d1, d2]⟩

set_option maxRecDepth 10000 in
theorem open_pk {fuel : Nat} {cs : List Value} {x : DataW H × List MemPlace} (h : DataW.trod enc Try.prog w base spare held fuel 51 cs = some x) :
    ∃ p : Pk, p.ok ∧ p.body.length ≤ maxLen ∧ cs = p.cells.toList ∧ x.1 = .agg [.agg [.lit (.int .u32 p.src), .lit (.int .u32 p.dst), .lit (.int .u16 p.port)], .lit (.int .u16 p.seq), .lit (.int .u32 p.time), .lit (.int .u16 p.id), .lit (.int .u8 p.flags), .lit (.string p.body)] := by
  obtain ⟨xs, n, _, rfl, hl, hlen, hf⟩ := DataW.trod_struct Try.underlying51 h
  rw [cellsPacket] at hl
  obtain ⟨c0, c1, c2, c3, c4, c5, c6, c7, rfl⟩ := list8 hl
  obtain ⟨y0, y1, y2, y3, y4, y5, rfl⟩ := list6 hlen
  have f0 := hf 0 _ rfl
  have f1 := hf 1 _ rfl
  have f2 := hf 2 _ rfl
  have f3 := hf 3 _ rfl
  have f4 := hf 4 _ rfl
  have f5 := hf 5 _ rfl
  simp [cellsRoute, cells32, cells16, cells8', cellsString] at f0 f1 f2 f3 f4 f5
  obtain ⟨a, b, c, ha, hb, hc, rfl, rfl, rfl, d0⟩ := open_route f0
  obtain ⟨q, e1, d1, wq⟩ := DataW.trod_int Try.underlying27 f1
  obtain ⟨t, e2, d2, wt⟩ := DataW.trod_int Try.underlying32 f2
  obtain ⟨i, e3, d3, wi⟩ := DataW.trod_int Try.underlying27 f3
  obtain ⟨f, e4, d4, wf⟩ := DataW.trod_int Try.underlying5 f4
  obtain ⟨s, e5, d5, ws⟩ := DataW.trod_string Try.underlying9 f5
  obtain ⟨q, rfl, hq⟩ := wf16 wq
  obtain ⟨t, rfl, ht⟩ := wf32 wt
  obtain ⟨i, rfl, hi⟩ := wf16 wi
  obtain ⟨f, rfl, hf'⟩ := wf8 wf
  simp at e1 e2 e3 e4 e5
  subst e1 e2 e3 e4 e5
  refine ⟨⟨a, b, c, q, t, i, f, s.data.toList⟩, ⟨ha, hb, hc, hq, ht, hi, hf'⟩, by simpa using ws, by simp [Pk.cells, bs_of], by simp [d0, d1, d2, d3, d4, d5]⟩
end

end Go.Proofs.Ytgpojbgjfibblaa.texts

namespace Go.Proofs.Ytgpojbgjfibblaa.texts
open Go.RowKit
set_option linter.unusedVariables false

def Sp.zero : Sp := ⟨0, 0, 0, 0, 0, 0, [], false, []⟩
instance : Inhabited Sp := ⟨Sp.zero⟩
/-- a slice value reads as a list of steps -/
structure StepsAt (w : World) (v : Value) (S : List Sp) (ao : Option Addr) (b off cap : Nat) : Prop where
  form : v = .slice ao S.length cap
  addr : 0 < S.length → ao = some ⟨b, off, none⟩
  cell : ∀ i j, i < S.length → j < 9 → w.cell? ⟨b, off + i * 9 + j, none⟩ = (S.getD i Sp.zero).cells[j]?
theorem StepsAt.lt {w : World} {v : Value} {S : List Sp} {ao : Option Addr} {b off cap : Nat} (h : StepsAt w v S ao b off cap) (hn : 0 < S.length) : b < w.heap.size := by
  have h1 := h.cell 0 0 hn (by omega)
  by_cases h2 : b < w.heap.size
  · exact h2
  · simp [World.cell?, Array.getElem?_eq_none (Nat.le_of_not_lt h2), Sp.cells] at h1

theorem cellsStep : Try.prog.cellsOf 88 = 9 := by kernel_rfl
theorem cellsBool : Try.prog.cellsOf 4 = 1 := by kernel_rfl
theorem list9 {α : Type} {l : List α} (h : l.length = 9) : ∃ a b c d e f g i j, l = [a, b, c, d, e, f, g, i, j] := by
  match l, h with
  | [a, b, c, d, e, f, g, i, j], _ => exact ⟨a, b, c, d, e, f, g, i, j, rfl⟩
theorem wf64 {a : Int} (h : (Lit.int .i64 a).wf = true) : -9223372036854775808 ≤ a ∧ a ≤ 9223372036854775807 := by
  simpa [Lit.wf, IntKind.min, IntKind.max, IntKind.signed, IntKind.bits] using h

section
variable {H : Type} {enc : TypeId × Value → H} {w : World} {base : Nat} {spare : Nat → Bool} {held : Bool}

set_option maxRecDepth 10000 in
theorem open_sp {fuel : Nat} {cs : List Value} {x : DataW H × List MemPlace} (h : DataW.trod enc Try.prog w base spare held fuel 88 cs = some x) :
    ∃ o : Sp, o.ok ∧ cs = o.cells.toList := by
  obtain ⟨xs, n, _, rfl, hl, hlen, hf⟩ := DataW.trod_struct Try.underlying88 h
  rw [cellsStep] at hl
  obtain ⟨c0, c1, c2, c3, c4, c5, c6, c7, c8, rfl⟩ := list9 hl
  obtain ⟨y0, y1, y2, y3, y4, y5, y6, y7, y8, rfl⟩ := list9 hlen
  have f0 := hf 0 _ rfl
  have f1 := hf 1 _ rfl
  have f2 := hf 2 _ rfl
  have f3 := hf 3 _ rfl
  have f4 := hf 4 _ rfl
  have f5 := hf 5 _ rfl
  have f6 := hf 6 _ rfl
  have f7 := hf 7 _ rfl
  have f8 := hf 8 _ rfl
  simp [cells32, cells16, cells8', cellsString, cellsInt, cellsBool] at f0 f1 f2 f3 f4 f5 f6 f7 f8
  obtain ⟨a, e0, d0, w0⟩ := DataW.trod_int Try.underlying3 f0
  obtain ⟨b, e1, d1, w1⟩ := DataW.trod_int Try.underlying3 f1
  obtain ⟨q, e2, d2, wq⟩ := DataW.trod_int Try.underlying27 f2
  obtain ⟨t, e3, d3, wt⟩ := DataW.trod_int Try.underlying32 f3
  obtain ⟨i, e4, d4, wi⟩ := DataW.trod_int Try.underlying27 f4
  obtain ⟨f, e5, d5, wf⟩ := DataW.trod_int Try.underlying5 f5
  obtain ⟨s, e6, d6, ws⟩ := DataW.trod_string Try.underlying9 f6
  obtain ⟨l, e7, d7⟩ := DataW.trod_bool Try.underlying4 f7
  obtain ⟨z, e8, d8, wz⟩ := DataW.trod_string Try.underlying9 f8
  obtain ⟨q, rfl, hq⟩ := wf16 wq
  obtain ⟨t, rfl, ht⟩ := wf32 wt
  obtain ⟨i, rfl, hi⟩ := wf16 wi
  obtain ⟨f, rfl, hf'⟩ := wf8 wf
  simp at e0 e1 e2 e3 e4 e5 e6 e7 e8
  subst e0 e1 e2 e3 e4 e5 e6 e7 e8
  exact ⟨⟨a, b, q, t, i, f, s.data.toList, l, z.data.toList⟩, ⟨wf64 w0, wf64 w1, hq, ht, hi, hf', by simpa using ws, by simpa using wz⟩, by simp [Sp.cells, bs_of]⟩

theorem list3 {α : Type} {l : List α} (h : l.length = 3) : ∃ a b c, l = [a, b, c] := by
  match l, h with
  | [a, b, c], _ => exact ⟨a, b, c, rfl⟩
theorem cellsSetup : Try.prog.cellsOf 81 = 3 := by kernel_rfl
theorem open_setup {fuel : Nat} {cs : List Value} {x : DataW H × List MemPlace} (h : DataW.trod enc Try.prog w base spare held fuel 81 cs = some x) :
    ∃ a k r : Int, Raw a ∧ Raw k ∧ Raw r ∧ cs = [.int .i64 a, .int .i64 k, .int .i64 r] := by
  obtain ⟨xs, n, _, rfl, hl, hlen, hf⟩ := DataW.trod_struct Try.underlying81 h
  rw [cellsSetup] at hl
  obtain ⟨c0, c1, c2, rfl⟩ := list3 hl
  obtain ⟨y0, y1, y2, rfl⟩ := list3 hlen
  have f0 := hf 0 _ rfl
  have f1 := hf 1 _ rfl
  have f2 := hf 2 _ rfl
  simp [cellsInt] at f0 f1 f2
  obtain ⟨a, e0, d0, w0⟩ := DataW.trod_int Try.underlying3 f0
  obtain ⟨b, e1, d1, w1⟩ := DataW.trod_int Try.underlying3 f1
  obtain ⟨c, e2, d2, w2⟩ := DataW.trod_int Try.underlying3 f2
  simp at e0 e1 e2
  subst e0 e1 e2
  exact ⟨a, b, c, wf64 w0, wf64 w1, wf64 w2, rfl⟩

theorem open_steps {fuel : Nat} {v : Value} {x : DataW H × List MemPlace} (hv : ∃ a len cap, v = .slice a len cap) (h : DataW.trod enc Try.prog w base spare held fuel 82 v.cells.toList = some x) :
    ∃ (S : List Sp) (ao : Option Addr) (b off cap : Nat), StepsAt w v S ao b off cap ∧ S.length ≤ maxLen ∧ (∀ i, i < S.length → (S.getD i Sp.zero).ok) := by
  obtain ⟨a0, l0, c0, rfl⟩ := hv
  rcases Go.Deep.open_slice Try.underlying82 h with ⟨hcs, _⟩ | ⟨a, len, cap, m, n, D, Pl, hcs, hb, hl, hm, hmm, hx, hel⟩
  · simp [Value.cells] at hcs
    obtain ⟨rfl, rfl, rfl⟩ := hcs
    exact ⟨[], none, 0, 0, 0, ⟨rfl, fun h => by simp at h, fun i j hi => by simp at hi⟩, by simp, fun i hi => by simp at hi⟩
  · simp [Value.cells] at hcs
    obtain ⟨rfl, rfl, rfl⟩ := hcs
    have hlm : l0 ≤ m := by rw [hmm]; split <;> omega
    have each : ∀ i, i < l0 → ∃ o : Sp, o.ok ∧ ∀ j, j < 9 → w.cell? (a.add (i * 9 + j)) = o.cells[j]? := by
      intro i hi
      obtain ⟨cs', h1, h2⟩ := hel i (by omega)
      rw [cellsStep] at h1
      obtain ⟨_, hlen, hcell⟩ := World.cells?_some h1
      obtain ⟨o, ho, rfl⟩ := open_sp h2
      refine ⟨o, ho, fun j hj => ?_⟩
      have := hcell j hj
      rw [Go.Deep.add_add] at this
      rw [this]
      have hs : j < o.cells.size := hj
      simp [hs]
    obtain ⟨q, hq⟩ := Go.Deep.choose_lt each
    have hll : ((List.range l0).map q).length = l0 := by simp
    have hget : ∀ i, i < l0 → ((List.range l0).map q).getD i Sp.zero = q i := fun i hi => by simp [List.getD_eq_getElem?_getD, hi]
    refine ⟨(List.range l0).map q, some a, a.block, a.off, c0, ⟨by rw [hll], fun h0 => ?_, fun i j hi hj => ?_⟩, by rw [hll]; omega, fun i hi => ?_⟩
    · rw [hll] at h0
      have hc := (hq 0 h0).2 0 (by omega)
      have hc := World.cell?_spot hc
      obtain ⟨b, o, s⟩ := a
      simp [Addr.add] at hc
      rw [hc]
    · rw [hll] at hi
      rw [hget i hi]
      have hc := (hq i hi).2 j hj
      have hs := World.cell?_spot ((hq 0 (by omega)).2 0 (by omega))
      obtain ⟨b, o, s⟩ := a
      simp [Addr.add] at hs
      subst hs
      rw [← hc, show ((⟨b, o, none⟩ : Addr).add (i * 9 + j)) = ⟨b, o + (i * 9 + j), none⟩ by simp [Addr.add], Nat.add_assoc]
    · rw [hll] at hi
      rw [hget i hi]
      exact (hq i hi).1
end

end Go.Proofs.Ytgpojbgjfibblaa.texts

namespace Go.Proofs.Ytgpojbgjfibblaa.texts
open Go.RowKit
set_option linter.unusedVariables false

/-- contexts at which the receiver stands where the sender does -/
def Well (x : Snd) (y : Rcv) (healed : List Bool) : Prop := ∀ i, i < 8 → healed.getD i false = true → 0 < (x.at_ i).kept ∧ Sees (y.at_ i) (x.at_ i) (x.at_ i).s0
theorem s0_mem {c : Cx} (h : 0 < c.kept) : c.s0 ∈ c.sts := by
  unfold Cx.sts
  obtain ⟨q, hq⟩ : ∃ q, c.kept = q + 1 := ⟨c.kept - 1, by omega⟩
  rw [hq]
  simp
theorem well_knows {x : Snd} (hx : x.ok) {y : Rcv} {healed : List Bool} (h : Well x y healed) (p : Pk) (hh : sendK x p = 3 ∨ healed.getD (chooseN x p.src p.dst p.port) false = true) : Knows (y.at_ (chooseN x p.src p.dst p.port)) (sendK x p) (metN x p).turn (nextN x p) p := by
  by_cases hk : sendK x p = 3
  · exact Or.inl hk
  · have hc8 := chooseN_lt hx p.src p.dst p.port
    obtain ⟨e1, e2, e3, e4⟩ := met_old hx hk
    obtain ⟨_, hS⟩ := h _ hc8 (hh.resolve_left hk)
    obtain ⟨p1, p2, p3⟩ := met_on x p
    rw [← e1] at hS e2
    refine Or.inr ⟨hS.begun, hS.turn, hS.src.trans p1, hS.dst.trans p2, hS.port.trans p3, ?_⟩
    rw [hS.st]
    unfold sendK kindN
    rw [if_neg (by omega)]
    split
    · exact needsN_le _ _
    · exact least_ge (s0_mem e2)
theorem getB_set (l : List Bool) (i j : Nat) (n : Bool) (hi : i < l.length) : (l.set i n).getD j false = if j = i then n else l.getD j false := by
  simp only [List.getD_eq_getElem?_getD, List.getElem?_set]
  by_cases h : j = i
  · subst h; simp [hi]
  · rw [if_neg (fun e => h e.symm), if_neg h]
theorem sees_fall {r : Rx} {c : Cx} {s : St} (h : Sees r c s) (q : Nat) : Sees r (fallC q c) s := by
  unfold fallC
  split
  · exact ⟨h.begun, h.turn, h.src, h.dst, h.port, h.st⟩
  · exact h
/-- a healed context's frame comes: it is its packet -/
theorem well_comes {x : Snd} (hx : x.ok) {y : Rcv} (hy : y.ok) {healed : List Bool} (hl : healed.length = 8) (h : Well x y healed) {p : Pk} (hp : p.ok) (hb : p.body.length ≤ 100) (hc : chooseN x p.src p.dst p.port < y.cids) (hh : sendK x p = 3 ∨ healed.getD (chooseN x p.src p.dst p.port) false = true) :
    takeE y (sendF x p) = 0 ∧ takeP y (sendF x p) = p ∧ takeB y (sendF x p) = [] ∧ Well (sendM x p) (takeM y (sendF x p)) (healed.set (chooseN x p.src p.dst p.port) true) := by
  have hk := well_knows hx h p hh
  have hc8 := chooseN_lt hx p.src p.dst p.port
  have hmo := met_ok hx hp
  obtain ⟨p1, p2, p3⟩ := met_on x p
  obtain ⟨t1, t2, t3, t4⟩ := take_good (m := y) (k := sendK x p) (t := (metN x p).turn) (cid := chooseN x p.src p.dst p.port) (n := nextN x p) (p := p) (s := strideN (metN x p) p) (kindN_le _ _ _) hmo.turn hc hc8 hp (strideN_lt hmo p) rfl hb hk
  refine ⟨t1, t2, t3, ?_⟩
  show Well (sendM x p) (takeM y (frameN (sendK x p) (metN x p).turn (chooseN x p.src p.dst p.port) (nextN x p) p)) _
  rw [t4]
  intro i hi
  rw [getB_set _ _ _ _ (by omega), send_at hx p i hi, Rcv.set_at _ _ _ _ (by rw [hy.len]; omega)]
  by_cases e : i = chooseN x p.src p.dst p.port
  · rw [if_pos e, if_pos e, if_pos e]
    intro _
    exact ⟨(sent_rest _ _ _ _ hx.k1).2.1, ⟨rfl, rfl, p1.symm, p2.symm, p3.symm, rfl⟩⟩
  · rw [if_neg e, if_neg e, if_neg e]
    intro h3
    obtain ⟨h4, h5⟩ := h i hi h3
    rw [(fall_rest _ _).2.2.2, (fall_more _ _).2.2.1]
    exact ⟨h4, sees_fall h5 _⟩
/-- a frame of a context that is not healed -/
theorem well_other {x : Snd} (hx : x.ok) {y : Rcv} (hy : y.ok) {healed : List Bool} (hl : healed.length = 8) (h : Well x y healed) {p : Pk} (hp : p.ok) (hb : p.body.length ≤ 100) :
    Well (sendM x p) (takeM y (sendF x p)) (healed.set (chooseN x p.src p.dst p.port) false) := by
  have hc8 := chooseN_lt hx p.src p.dst p.port
  intro i hi
  rw [getB_set _ _ _ _ (by omega), send_at hx p i hi]
  by_cases e : i = chooseN x p.src p.dst p.port
  · rw [if_pos e]
    intro h; cases h
  · rw [if_neg e, if_neg e, take_other hy hx hp hb e]
    intro h3
    obtain ⟨h4, h5⟩ := h i hi h3
    rw [(fall_rest _ _).2.2.2, (fall_more _ _).2.2.1]
    exact ⟨h4, sees_fall h5 _⟩
theorem well_hear {x : Snd} (hx : x.ok) {y : Rcv} {healed : List Bool} (h : Well x y healed) (l : List UInt8) : Well (hearM x l) y healed := by
  rcases hear_cases x l with e | ⟨i, hi, hk, e | e⟩ <;> rw [e]
  · exact h
  all_goals
    intro j hj h3
    obtain ⟨h4, h5⟩ := h j hj h3
    rw [Snd.set_at _ _ _ _ (by rw [hx.len]; omega)]
    split
    · rename_i e; subst e; exact ⟨hk, ⟨h5.begun, h5.turn, h5.src, h5.dst, h5.port, h5.st⟩⟩
    · exact ⟨h4, h5⟩
theorem well_none (x : Snd) (y : Rcv) : Well x y (List.replicate 8 false) := by
  intro i hi h
  rw [List.getD_eq_getElem?_getD, List.getElem?_replicate, if_pos hi] at h
  cases h

end Go.Proofs.Ytgpojbgjfibblaa.texts

namespace Go.Proofs.Ytgpojbgjfibblaa.texts
open Go.RowKit
set_option linter.unusedVariables false

theorem at_drewN {w : World} {k : Nat} {O : Obj} (h : w.heap[k]? = some O) (n : Nat) : (w.drewN n).heap[k]? = some O := h
/-- the cells of a script's step, as long as nothing old has turned -/
theorem step_cell {W w : World} {v : Value} {S : List Sp} {ao : Option Addr} {b off cap : Nat} (h : StepsAt W v S ao b off cap) (hb : Below W.heap.size W w) {i j : Nat} (hi : i < S.length) (hj : j < 9) : w.cell? ⟨b, off + i * 9 + j, none⟩ = (S.getD i Sp.zero).cells[j]? := by
  have h1 := h.cell i j hi hj
  have h2 : (S.getD i Sp.zero).cells[j]? = some ((S.getD i Sp.zero).cells[j]'hj) := Array.getElem?_eq_getElem _
  rw [h2] at h1 ⊢
  exact keep_cell h1 hb
theorem step_cells {W w : World} {v : Value} {S : List Sp} {ao : Option Addr} {b off cap : Nat} (h : StepsAt W v S ao b off cap) (hb : Below W.heap.size W w) {i : Nat} (hi : i < S.length) {o : Sp} (ho : S.getD i Sp.zero = o) :
    w.cell? ⟨b, off + i * 9, none⟩ = some (.int .i64 o.flow) ∧ w.cell? ⟨b, off + i * 9 + 1, none⟩ = some (.int .i64 o.how) ∧ w.cell? ⟨b, off + i * 9 + 2, none⟩ = some (.int .u16 o.seq) ∧ w.cell? ⟨b, off + i * 9 + 3, none⟩ = some (.int .u32 o.time) ∧ w.cell? ⟨b, off + i * 9 + 4, none⟩ = some (.int .u16 o.id) ∧ w.cell? ⟨b, off + i * 9 + 5, none⟩ = some (.int .u8 o.flags) ∧ w.cell? ⟨b, off + i * 9 + 6, none⟩ = some (.string (bs o.body)) ∧ w.cell? ⟨b, off + i * 9 + 7, none⟩ = some (.bool o.lose) ∧ w.cell? ⟨b, off + i * 9 + 8, none⟩ = some (.string (bs o.hear)) := by
  subst ho
  exact ⟨step_cell h hb hi (j := 0) (by omega), step_cell h hb hi (j := 1) (by omega), step_cell h hb hi (j := 2) (by omega), step_cell h hb hi (j := 3) (by omega), step_cell h hb hi (j := 4) (by omega), step_cell h hb hi (j := 5) (by omega), step_cell h hb hi (j := 6) (by omega), step_cell h hb hi (j := 7) (by omega), step_cell h hb hi (j := 8) (by omega)⟩

/-- what one step makes of a line -/
structure OneStep (m : Ln) (X : Snd) (Y : Rcv) (o : Sp) (b s y : Nat) (P : Pk) (F : List UInt8) (D N : Nat) (X2 : Snd) (m1 m2 : Ln) : Prop where
  pok : P.ok
  pb : P.body.length ≤ 100
  f : F = sendF X P
  fl : F.length ≤ 123
  d : D = chooseN X P.src P.dst P.port
  d8 : D < 8
  dc : D < Y.cids
  x2 : X2 = sendM X P
  m2s : m2.s = s
  m2r : m2.r = y
  lin : Lin m2 X2 Y
  n : N = (if sendK X P = 3 then 0 else m.since.getD D 0 + 1)
  nr : N < m2.refresh
  since : m2.cells[93 + D]? = some (.int .i64 (N : Nat))
  packet : ∀ w, LnAt w b m → Calls Try.prog 39 #[.pointer (some ⟨b, 0, none⟩), .agg o.cells] w fun e w' => e = .returned (.agg P.cells) ∧ LnAt w' b m1 ∧ Only (· = b) w w'
  send : ∀ w, LnAt w b m1 → SndAt w s X → b ≠ s → Calls Try.prog 40 #[.pointer (some ⟨b, 0, none⟩), .agg P.cells] w fun e w' => e = .returned (.tuple #[.string (bs F), .int .i64 (D : Nat), .bool true]) ∧ LnAt w' b m2 ∧ SndAt w' s X2 ∧ Only (fun k => k = b ∨ k = s) w w'
theorem one_step {m : Ln} {X : Snd} {Y : Rcv} {o : Sp} {b s y : Nat} (hlin : Lin m X Y) (ho : o.ok) (hms : m.s = s) (hmr : m.r = y) : ∃ P F D N X2 m1 m2, OneStep m X Y o b s y P F D N X2 m1 m2 := by
  obtain ⟨hpo, hpb⟩ := packetK_ok hlin.mo ho
  have lin1 : Lin (m.setLast (flowN o) (packetK m o)) X Y := hlin.packet _ hpo
  have hDc := lin1.choose (packetK m o)
  have hD8 := chooseN_lt lin1.xo (packetK m o).src (packetK m o).dst (packetK m o).port
  have lin2 := lin1.send hpo
  have hag := (aged_send lin1.xo lin1.mo.since lin1.aged (packetK m o)).2
  refine ⟨packetK m o, _, _, _, _, m.setLast (flowN o) (packetK m o), (m.setLast (flowN o) (packetK m o)).setSince (chooseN X (packetK m o).src (packetK m o).dst (packetK m o).port) (if sendK X (packetK m o) = 3 then 0 else m.since.getD (chooseN X (packetK m o).src (packetK m o).dst (packetK m o).port) 0 + 1), ⟨hpo, hpb, rfl, frame_short lin1.xo hpb, rfl, hD8, by rw [lin1.yc]; exact hDc, rfl, hms, hmr, lin2, rfl, ?_, ?_, fun w h => kpacket_any m b o w hlin.mo h ho, fun w h1 h2 h3 => ?_⟩⟩
  · show _ < m.refresh
    rw [← hlin.xr]
    exact hag
  · refine (Ln.getSince lin2.mo _ hD8).trans ?_
    show some (Value.int .i64 (((m.since.set _ _).getD _ 0 : Nat) : Int)) = _
    rw [getD_set _ _ _ _ (by rw [hlin.mo.since]; omega), if_pos rfl]
    rfl
  · have := ksend_any (m.setLast (flowN o) (packetK m o)) b X (packetK m o) w lin1.mo lin1.xo hpo hpb h1 (by show SndAt w m.s X; rw [hms]; exact h2) (by show b ≠ m.s; rw [hms]; exact h3) lin1.cnt hDc (fun i => by have := lin1.since i; omega)
    have e : (m.setLast (flowN o) (packetK m o)).s = s := hms
    rw [e] at this
    exact this

/-- a line's memory -/
theorem LinAt.parts {w : World} {b s y : Nat} {m : Ln} {x : Snd} {r : Rcv} (h : LinAt w b m x r) (hs : m.s = s) (hr : m.r = y) : LnAt w b m ∧ SndAt w s x ∧ RcvAt w y r ∧ b ≠ s ∧ b ≠ y ∧ s ≠ y := by
  subst hs hr
  exact ⟨h.ln, h.snd, h.rcv, h.bs, h.br, h.sr⟩
theorem LinAt.make {w : World} {b s y : Nat} {m : Ln} {x : Snd} {r : Rcv} (h1 : LnAt w b m) (h2 : SndAt w s x) (h3 : RcvAt w y r) (hbs : b ≠ s) (hby : b ≠ y) (hsy : s ≠ y) (hs : m.s = s) (hr : m.r = y) : LinAt w b m x r := by
  subst hs hr
  exact ⟨h1, h2, h3, hbs, hby, hsy⟩
/-- Take, whatever it answers -/
theorem take_call (Y : Rcv) (y : Nat) (l : List UInt8) (w : World) (hy : Y.ok) (h : RcvAt w y Y) (hl : l.length ≤ 9223372036854775807) :
    Calls Try.prog 44 #[.pointer (some ⟨y, 0, none⟩), .string (bs l)] w fun e w' => (∃ v, e = .returned v) ∧ RcvAt w' y (takeM Y l) ∧ Only (· = y) w w' :=
  (gtake_any Y y l w hy h hl).mono fun e w' ⟨h1, h2, h3⟩ => ⟨⟨_, h1⟩, h2, h3⟩
theorem hear_call (X : Snd) (s : Nat) (l : List UInt8) (w : World) (hx : X.ok) (h : SndAt w s X) (hl : l.length ≤ maxLen) :
    Calls Try.prog 42 #[.pointer (some ⟨s, 0, none⟩), .string (bs l)] w fun e w' => (∃ v, e = .returned v) ∧ SndAt w' s (hearM X l) ∧ Only (· = s) w w' :=
  (ghear_any X s l w hx h hl).mono fun e w' ⟨h1, h2, h3⟩ => ⟨⟨_, h1⟩, h2, h3⟩

end Go.Proofs.Ytgpojbgjfibblaa.texts
