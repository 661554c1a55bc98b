/-
  A packet among the arguments, opened: its cells, and that its numbers have their widths. A list of steps among the arguments, opened. A line that heals, in plain numbers: how long ago a context's last whole frame was; contexts that stand where the sender stands. One step of a script: its packet, its frame, what becomes of the line. What a frame of a packet gives a receiver, whatever it has taken before (gistkeep head, width, honest).
  Conditions stand in each theorem.
-/
import Derived.Test.YtgpojbgjfibblaaPart2
import Derived.ProofKit
import Derived.OpenShut
import Derived.Test.YtgpojbgjfibblaaPart23
import Derived.Test.YtgpojbgjfibblaaPart38
import Derived.Deep.Slices
import Derived.Test.YtgpojbgjfibblaaKeepBegun
import Derived.Test.YtgpojbgjfibblaaKeepPk
import Derived.Test.YtgpojbgjfibblaaHearWalk
import Derived.Test.YtgpojbgjfibblaaPart8
import Derived.Test.YtgpojbgjfibblaaPart1
namespace Go.Proofs.Ytgpojbgjfibblaa.texts
open Go.RowKit
set_option linter.unusedVariables false

theorem cellsPacket : Try.prog.cellsOf 51 = 8 := by kernel_rfl
theorem cellsRoute : Try.prog.cellsOf 49 = 3 := by kernel_rfl
theorem cells8' : Try.prog.cellsOf 5 = 1 := by kernel_rfl
theorem cells16 : Try.prog.cellsOf 27 = 1 := by kernel_rfl
theorem cells32 : Try.prog.cellsOf 32 = 1 := by kernel_rfl
theorem cellsInt : Try.prog.cellsOf 3 = 1 := by kernel_rfl
theorem cellsString : Try.prog.cellsOf 9 = 1 := by kernel_rfl

theorem wf8 {a : Int} (h : (Lit.int .u8 a).wf = true) : ∃ n : Nat, a = n ∧ n < 256 := by
  have h : 0 ≤ a ∧ a ≤ 255 := by simpa [Lit.wf, IntKind.min, IntKind.max, IntKind.signed, IntKind.bits] using h
  exact ⟨a.toNat, by omega, by omega⟩
theorem wf16 {a : Int} (h : (Lit.int .u16 a).wf = true) : ∃ n : Nat, a = n ∧ n < 65536 := by
  have h : 0 ≤ a ∧ a ≤ 65535 := by simpa [Lit.wf, IntKind.min, IntKind.max, IntKind.signed, IntKind.bits] using h
  exact ⟨a.toNat, by omega, by omega⟩
theorem wf32 {a : Int} (h : (Lit.int .u32 a).wf = true) : ∃ n : Nat, a = n ∧ n < 4294967296 := by
  have h : 0 ≤ a ∧ a ≤ 4294967295 := by simpa [Lit.wf, IntKind.min, IntKind.max, IntKind.signed, IntKind.bits] using h
  exact ⟨a.toNat, by omega, by omega⟩

theorem list8 {α : Type} {l : List α} (h : l.length = 8) : ∃ a b c d e f g i, l = [a, b, c, d, e, f, g, i] := by
  match l, h with
  | [a, b, c, d, e, f, g, i], _ => exact ⟨a, b, c, d, e, f, g, i, rfl⟩
theorem list6 {α : Type} {l : List α} (h : l.length = 6) : ∃ a b c d e f, l = [a, b, c, d, e, f] := by
  match l, h with
  | [a, b, c, d, e, f], _ => exact ⟨a, b, c, d, e, f, rfl⟩

section
variable {H : Type} {enc : TypeId × Value → H} {w : World} {base : Nat} {spare : Nat → Bool} {held : Bool}

theorem open_route {fuel : Nat} {c0 c1 c2 : Value} {x : DataW H × List MemPlace} (h : DataW.trod enc Try.prog w base spare held fuel 49 [c0, c1, c2] = some x) :
    ∃ a b c : Nat, a < 4294967296 ∧ b < 4294967296 ∧ c < 65536 ∧ c0 = .int .u32 a ∧ c1 = .int .u32 b ∧ c2 = .int .u16 c ∧ x.1 = .agg [.lit (.int .u32 a), .lit (.int .u32 b), .lit (.int .u16 c)] := by
  obtain ⟨xs, n, _, rfl, hl, hlen, hf⟩ := DataW.trod_struct Try.underlying49 h
  match xs, hlen with
  | [y0, y1, y2], _ =>
    have f0 := hf 0 _ rfl
    have f1 := hf 1 _ rfl
    have f2 := hf 2 _ rfl
    simp [cells32, cells16] at f0 f1 f2
    obtain ⟨a, e0, d0, wa⟩ := DataW.trod_int Try.underlying32 f0
    obtain ⟨b, e1, d1, wb⟩ := DataW.trod_int Try.underlying32 f1
    obtain ⟨c, e2, d2, wc⟩ := DataW.trod_int Try.underlying27 f2
    obtain ⟨a, rfl, ha⟩ := wf32 wa
    obtain ⟨b, rfl, hb⟩ := wf32 wb
    obtain ⟨c, rfl, hc⟩ := wf16 wc
    simp at e0 e1 e2
    exact ⟨a, b, c, ha, hb, hc, e0, e1, e2, by simp [d0, d1, d2]⟩

set_option maxRecDepth 10000 in
theorem open_pk {fuel : Nat} {cs : List Value} {x : DataW H × List MemPlace} (h : DataW.trod enc Try.prog w base spare held fuel 51 cs = some x) :
    ∃ p : Pk, p.ok ∧ p.body.length ≤ maxLen ∧ cs = p.cells.toList ∧ x.1 = .agg [.agg [.lit (.int .u32 p.src), .lit (.int .u32 p.dst), .lit (.int .u16 p.port)], .lit (.int .u16 p.seq), .lit (.int .u32 p.time), .lit (.int .u16 p.id), .lit (.int .u8 p.flags), .lit (.string p.body)] := by
  obtain ⟨xs, n, _, rfl, hl, hlen, hf⟩ := DataW.trod_struct Try.underlying51 h
  rw [cellsPacket] at hl
  obtain ⟨c0, c1, c2, c3, c4, c5, c6, c7, rfl⟩ := list8 hl
  obtain ⟨y0, y1, y2, y3, y4, y5, rfl⟩ := list6 hlen
  have f0 := hf 0 _ rfl
  have f1 := hf 1 _ rfl
  have f2 := hf 2 _ rfl
  have f3 := hf 3 _ rfl
  have f4 := hf 4 _ rfl
  have f5 := hf 5 _ rfl
  simp [cellsRoute, cells32, cells16, cells8', cellsString] at f0 f1 f2 f3 f4 f5
  obtain ⟨a, b, c, ha, hb, hc, rfl, rfl, rfl, d0⟩ := open_route f0
  obtain ⟨q, e1, d1, wq⟩ := DataW.trod_int Try.underlying27 f1
  obtain ⟨t, e2, d2, wt⟩ := DataW.trod_int Try.underlying32 f2
  obtain ⟨i, e3, d3, wi⟩ := DataW.trod_int Try.underlying27 f3
  obtain ⟨f, e4, d4, wf⟩ := DataW.trod_int Try.underlying5 f4
  obtain ⟨s, e5, d5, ws⟩ := DataW.trod_string Try.underlying9 f5
  obtain ⟨q, rfl, hq⟩ := wf16 wq
  obtain ⟨t, rfl, ht⟩ := wf32 wt
  obtain ⟨i, rfl, hi⟩ := wf16 wi
  obtain ⟨f, rfl, hf'⟩ := wf8 wf
  simp at e1 e2 e3 e4 e5
  subst e1 e2 e3 e4 e5
  refine ⟨⟨a, b, c, q, t, i, f, s.data.toList⟩, ⟨ha, hb, hc, hq, ht, hi, hf'⟩, by simpa using ws, by simp [Pk.cells, bs_of], by simp [d0, d1, d2, d3, d4, d5]⟩
end

end Go.Proofs.Ytgpojbgjfibblaa.texts

namespace Go.Proofs.Ytgpojbgjfibblaa.texts
open Go.RowKit
set_option linter.unusedVariables false

def Sp.zero : Sp := ⟨0, 0, 0, 0, 0, 0, [], false, []⟩
instance : Inhabited Sp := ⟨Sp.zero⟩
/-- a slice value reads as a list of steps -/
structure StepsAt (w : World) (v : Value) (S : List Sp) (ao : Option Addr) (b off cap : Nat) : Prop where
  form : v = .slice ao S.length cap
  addr : 0 < S.length → ao = some ⟨b, off, none⟩
  cell : ∀ i j, i < S.length → j < 9 → w.cell? ⟨b, off + i * 9 + j, none⟩ = (S.getD i Sp.zero).cells[j]?
theorem StepsAt.lt {w : World} {v : Value} {S : List Sp} {ao : Option Addr} {b off cap : Nat} (h : StepsAt w v S ao b off cap) (hn : 0 < S.length) : b < w.heap.size := by
  have h1 := h.cell 0 0 hn (by omega)
  by_cases h2 : b < w.heap.size
  · exact h2
  · simp [World.cell?, Array.getElem?_eq_none (Nat.le_of_not_lt h2), Sp.cells] at h1

theorem cellsStep : Try.prog.cellsOf 88 = 9 := by kernel_rfl
theorem cellsBool : Try.prog.cellsOf 4 = 1 := by kernel_rfl
theorem list9 {α : Type} {l : List α} (h : l.length = 9) : ∃ a b c d e f g i j, l = [a, b, c, d, e, f, g, i, j] := by
  match l, h with
  | [a, b, c, d, e, f, g, i, j], _ => exact ⟨a, b, c, d, e, f, g, i, j, rfl⟩
theorem wf64 {a : Int} (h : (Lit.int .i64 a).wf = true) : -9223372036854775808 ≤ a ∧ a ≤ 9223372036854775807 := by
  simpa [Lit.wf, IntKind.min, IntKind.max, IntKind.signed, IntKind.bits] using h

section
variable {H : Type} {enc : TypeId × Value → H} {w : World} {base : Nat} {spare : Nat → Bool} {held : Bool}

set_option maxRecDepth 10000 in
theorem open_sp {fuel : Nat} {cs : List Value} {x : DataW H × List MemPlace} (h : DataW.trod enc Try.prog w base spare held fuel 88 cs = some x) :
    ∃ o : Sp, o.ok ∧ cs = o.cells.toList := by
  obtain ⟨xs, n, _, rfl, hl, hlen, hf⟩ := DataW.trod_struct Try.underlying88 h
  rw [cellsStep] at hl
  obtain ⟨c0, c1, c2, c3, c4, c5, c6, c7, c8, rfl⟩ := list9 hl
  obtain ⟨y0, y1, y2, y3, y4, y5, y6, y7, y8, rfl⟩ := list9 hlen
  have f0 := hf 0 _ rfl
  have f1 := hf 1 _ rfl
  have f2 := hf 2 _ rfl
  have f3 := hf 3 _ rfl
  have f4 := hf 4 _ rfl
  have f5 := hf 5 _ rfl
  have f6 := hf 6 _ rfl
  have f7 := hf 7 _ rfl
  have f8 := hf 8 _ rfl
  simp [cells32, cells16, cells8', cellsString, cellsInt, cellsBool] at f0 f1 f2 f3 f4 f5 f6 f7 f8
  obtain ⟨a, e0, d0, w0⟩ := DataW.trod_int Try.underlying3 f0
  obtain ⟨b, e1, d1, w1⟩ := DataW.trod_int Try.underlying3 f1
  obtain ⟨q, e2, d2, wq⟩ := DataW.trod_int Try.underlying27 f2
  obtain ⟨t, e3, d3, wt⟩ := DataW.trod_int Try.underlying32 f3
  obtain ⟨i, e4, d4, wi⟩ := DataW.trod_int Try.underlying27 f4
  obtain ⟨f, e5, d5, wf⟩ := DataW.trod_int Try.underlying5 f5
  obtain ⟨s, e6, d6, ws⟩ := DataW.trod_string Try.underlying9 f6
  obtain ⟨l, e7, d7⟩ := DataW.trod_bool Try.underlying4 f7
  obtain ⟨z, e8, d8, wz⟩ := DataW.trod_string Try.underlying9 f8
  obtain ⟨q, rfl, hq⟩ := wf16 wq
  obtain ⟨t, rfl, ht⟩ := wf32 wt
  obtain ⟨i, rfl, hi⟩ := wf16 wi
  obtain ⟨f, rfl, hf'⟩ := wf8 wf
  simp at e0 e1 e2 e3 e4 e5 e6 e7 e8
  subst e0 e1 e2 e3 e4 e5 e6 e7 e8
  exact ⟨⟨a, b, q, t, i, f, s.data.toList, l, z.data.toList⟩, ⟨wf64 w0, wf64 w1, hq, ht, hi, hf', by simpa using ws, by simpa using wz⟩, by simp [Sp.cells, bs_of]⟩

theorem list3 {α : Type} {l : List α} (h : l.length = 3) : ∃ a b c, l = [a, b, c] := by
  match l, h with
  | [a, b, c], _ => exact ⟨a, b, c, rfl⟩
theorem cellsSetup : Try.prog.cellsOf 81 = 3 := by kernel_rfl
theorem open_setup {fuel : Nat} {cs : List Value} {x : DataW H × List MemPlace} (h : DataW.trod enc Try.prog w base spare held fuel 81 cs = some x) :
    ∃ a k r : Int, Raw a ∧ Raw k ∧ Raw r ∧ cs = [.int .i64 a, .int .i64 k, .int .i64 r] := by
  obtain ⟨xs, n, _, rfl, hl, hlen, hf⟩ := DataW.trod_struct Try.underlying81 h
  rw [cellsSetup] at hl
  obtain ⟨c0, c1, c2, rfl⟩ := list3 hl
  obtain ⟨y0, y1, y2, rfl⟩ := list3 hlen
  have f0 := hf 0 _ rfl
  have f1 := hf 1 _ rfl
  have f2 := hf 2 _ rfl
  simp [cellsInt] at f0 f1 f2
  obtain ⟨a, e0, d0, w0⟩ := DataW.trod_int Try.underlying3 f0
  obtain ⟨b, e1, d1, w1⟩ := DataW.trod_int Try.underlying3 f1
  obtain ⟨c, e2, d2, w2⟩ := DataW.trod_int Try.underlying3 f2
  simp at e0 e1 e2
  subst e0 e1 e2
  exact ⟨a, b, c, wf64 w0, wf64 w1, wf64 w2, rfl⟩

theorem open_steps {fuel : Nat} {v : Value} {x : DataW H × List MemPlace} (hv : ∃ a len cap, v = .slice a len cap) (h : DataW.trod enc Try.prog w base spare held fuel 82 v.cells.toList = some x) :
    ∃ (S : List Sp) (ao : Option Addr) (b off cap : Nat), StepsAt w v S ao b off cap ∧ S.length ≤ maxLen ∧ (∀ i, i < S.length → (S.getD i Sp.zero).ok) := by
  obtain ⟨a0, l0, c0, rfl⟩ := hv
  rcases Go.Deep.open_slice Try.underlying82 h with ⟨hcs, _⟩ | ⟨a, len, cap, m, n, D, Pl, hcs, hb, hl, hm, hmm, hx, hel⟩
  · simp [Value.cells] at hcs
    obtain ⟨rfl, rfl, rfl⟩ := hcs
    exact ⟨[], none, 0, 0, 0, ⟨rfl, fun h => by simp at h, fun i j hi => by simp at hi⟩, by simp, fun i hi => by simp at hi⟩
  · simp [Value.cells] at hcs
    obtain ⟨rfl, rfl, rfl⟩ := hcs
    have hlm : l0 ≤ m := by rw [hmm]; split <;> omega
    have each : ∀ i, i < l0 → ∃ o : Sp, o.ok ∧ ∀ j, j < 9 → w.cell? (a.add (i * 9 + j)) = o.cells[j]? := by
      intro i hi
      obtain ⟨cs', h1, h2⟩ := hel i (by omega)
      rw [cellsStep] at h1
      obtain ⟨_, hlen, hcell⟩ := World.cells?_some h1
      obtain ⟨o, ho, rfl⟩ := open_sp h2
      refine ⟨o, ho, fun j hj => ?_⟩
      have := hcell j hj
      rw [Go.Deep.add_add] at this
      rw [this]
      have hs : j < o.cells.size := hj
      simp [hs]
    obtain ⟨q, hq⟩ := Go.Deep.choose_lt each
    have hll : ((List.range l0).map q).length = l0 := by simp
    have hget : ∀ i, i < l0 → ((List.range l0).map q).getD i Sp.zero = q i := fun i hi => by simp [List.getD_eq_getElem?_getD, hi]
    refine ⟨(List.range l0).map q, some a, a.block, a.off, c0, ⟨by rw [hll], fun h0 => ?_, fun i j hi hj => ?_⟩, by rw [hll]; omega, fun i hi => ?_⟩
    · rw [hll] at h0
      have hc := (hq 0 h0).2 0 (by omega)
      have hc := World.cell?_spot hc
      obtain ⟨b, o, s⟩ := a
      simp [Addr.add] at hc
      rw [hc]
    · rw [hll] at hi
      rw [hget i hi]
      have hc := (hq i hi).2 j hj
      have hs := World.cell?_spot ((hq 0 (by omega)).2 0 (by omega))
      obtain ⟨b, o, s⟩ := a
      simp [Addr.add] at hs
      subst hs
      rw [← hc, show ((⟨b, o, none⟩ : Addr).add (i * 9 + j)) = ⟨b, o + (i * 9 + j), none⟩ by simp [Addr.add], Nat.add_assoc]
    · rw [hll] at hi
      rw [hget i hi]
      exact (hq i hi).1
end

end Go.Proofs.Ytgpojbgjfibblaa.texts

namespace Go.Proofs.Ytgpojbgjfibblaa.texts
open Go.RowKit
set_option linter.unusedVariables false

/-- contexts at which the receiver stands where the sender does -/
def Well (x : Snd) (y : Rcv) (healed : List Bool) : Prop := ∀ i, i < 8 → healed.getD i false = true → 0 < (x.at_ i).kept ∧ Sees (y.at_ i) (x.at_ i) (x.at_ i).s0
theorem s0_mem {c : Cx} (h : 0 < c.kept) : c.s0 ∈ c.sts := by
  unfold Cx.sts
  obtain ⟨q, hq⟩ : ∃ q, c.kept = q + 1 := ⟨c.kept - 1, by omega⟩
  rw [hq]
  simp
theorem well_knows {x : Snd} (hx : x.ok) {y : Rcv} {healed : List Bool} (h : Well x y healed) (p : Pk) (hh : sendK x p = 3 ∨ healed.getD (chooseN x p.src p.dst p.port) false = true) : Knows (y.at_ (chooseN x p.src p.dst p.port)) (sendK x p) (metN x p).turn (nextN x p) p := by
  by_cases hk : sendK x p = 3
  · exact Or.inl hk
  · have hc8 := chooseN_lt hx p.src p.dst p.port
    obtain ⟨e1, e2, e3, e4⟩ := met_old hx hk
    obtain ⟨_, hS⟩ := h _ hc8 (hh.resolve_left hk)
    obtain ⟨p1, p2, p3⟩ := met_on x p
    rw [← e1] at hS e2
    refine Or.inr ⟨hS.begun, hS.turn, hS.src.trans p1, hS.dst.trans p2, hS.port.trans p3, ?_⟩
    rw [hS.st]
    unfold sendK kindN
    rw [if_neg (by omega)]
    split
    · exact needsN_le _ _
    · exact least_ge (s0_mem e2)
theorem getB_set (l : List Bool) (i j : Nat) (n : Bool) (hi : i < l.length) : (l.set i n).getD j false = if j = i then n else l.getD j false := by
  simp only [List.getD_eq_getElem?_getD, List.getElem?_set]
  by_cases h : j = i
  · subst h; simp [hi]
  · rw [if_neg (fun e => h e.symm), if_neg h]
theorem sees_fall {r : Rx} {c : Cx} {s : St} (h : Sees r c s) (q : Nat) : Sees r (fallC q c) s := by
  unfold fallC
  split
  · exact ⟨h.begun, h.turn, h.src, h.dst, h.port, h.st⟩
  · exact h
/-- a healed context's frame comes: it is its packet -/
theorem well_comes {x : Snd} (hx : x.ok) {y : Rcv} (hy : y.ok) {healed : List Bool} (hl : healed.length = 8) (h : Well x y healed) {p : Pk} (hp : p.ok) (hb : p.body.length ≤ 100) (hc : chooseN x p.src p.dst p.port < y.cids) (hh : sendK x p = 3 ∨ healed.getD (chooseN x p.src p.dst p.port) false = true) :
    takeE y (sendF x p) = 0 ∧ takeP y (sendF x p) = p ∧ takeB y (sendF x p) = [] ∧ Well (sendM x p) (takeM y (sendF x p)) (healed.set (chooseN x p.src p.dst p.port) true) := by
  have hk := well_knows hx h p hh
  have hc8 := chooseN_lt hx p.src p.dst p.port
  have hmo := met_ok hx hp
  obtain ⟨p1, p2, p3⟩ := met_on x p
  obtain ⟨t1, t2, t3, t4⟩ := take_good (m := y) (k := sendK x p) (t := (metN x p).turn) (cid := chooseN x p.src p.dst p.port) (n := nextN x p) (p := p) (s := strideN (metN x p) p) (kindN_le _ _ _) hmo.turn hc hc8 hp (strideN_lt hmo p) rfl hb hk
  refine ⟨t1, t2, t3, ?_⟩
  show Well (sendM x p) (takeM y (frameN (sendK x p) (metN x p).turn (chooseN x p.src p.dst p.port) (nextN x p) p)) _
  rw [t4]
  intro i hi
  rw [getB_set _ _ _ _ (by omega), send_at hx p i hi, Rcv.set_at _ _ _ _ (by rw [hy.len]; omega)]
  by_cases e : i = chooseN x p.src p.dst p.port
  · rw [if_pos e, if_pos e, if_pos e]
    intro _
    exact ⟨(sent_rest _ _ _ _ hx.k1).2.1, ⟨rfl, rfl, p1.symm, p2.symm, p3.symm, rfl⟩⟩
  · rw [if_neg e, if_neg e, if_neg e]
    intro h3
    obtain ⟨h4, h5⟩ := h i hi h3
    rw [(fall_rest _ _).2.2.2, (fall_more _ _).2.2.1]
    exact ⟨h4, sees_fall h5 _⟩
/-- a frame of a context that is not healed -/
theorem well_other {x : Snd} (hx : x.ok) {y : Rcv} (hy : y.ok) {healed : List Bool} (hl : healed.length = 8) (h : Well x y healed) {p : Pk} (hp : p.ok) (hb : p.body.length ≤ 100) :
    Well (sendM x p) (takeM y (sendF x p)) (healed.set (chooseN x p.src p.dst p.port) false) := by
  have hc8 := chooseN_lt hx p.src p.dst p.port
  intro i hi
  rw [getB_set _ _ _ _ (by omega), send_at hx p i hi]
  by_cases e : i = chooseN x p.src p.dst p.port
  · rw [if_pos e]
    intro h; cases h
  · rw [if_neg e, if_neg e, take_other hy hx hp hb e]
    intro h3
    obtain ⟨h4, h5⟩ := h i hi h3
    rw [(fall_rest _ _).2.2.2, (fall_more _ _).2.2.1]
    exact ⟨h4, sees_fall h5 _⟩
theorem well_hear {x : Snd} (hx : x.ok) {y : Rcv} {healed : List Bool} (h : Well x y healed) (l : List UInt8) : Well (hearM x l) y healed := by
  rcases hear_cases x l with e | ⟨i, hi, hk, e | e⟩ <;> rw [e]
  · exact h
  all_goals
    intro j hj h3
    obtain ⟨h4, h5⟩ := h j hj h3
    rw [Snd.set_at _ _ _ _ (by rw [hx.len]; omega)]
    split
    · rename_i e; subst e; exact ⟨hk, ⟨h5.begun, h5.turn, h5.src, h5.dst, h5.port, h5.st⟩⟩
    · exact ⟨h4, h5⟩
theorem well_none (x : Snd) (y : Rcv) : Well x y (List.replicate 8 false) := by
  intro i hi h
  rw [List.getD_eq_getElem?_getD, List.getElem?_replicate, if_pos hi] at h
  cases h

end Go.Proofs.Ytgpojbgjfibblaa.texts

namespace Go.Proofs.Ytgpojbgjfibblaa.texts
open Go.RowKit
set_option linter.unusedVariables false

theorem at_drewN {w : World} {k : Nat} {O : Obj} (h : w.heap[k]? = some O) (n : Nat) : (w.drewN n).heap[k]? = some O := h
/-- the cells of a script's step, as long as nothing old has turned -/
theorem step_cell {W w : World} {v : Value} {S : List Sp} {ao : Option Addr} {b off cap : Nat} (h : StepsAt W v S ao b off cap) (hb : Below W.heap.size W w) {i j : Nat} (hi : i < S.length) (hj : j < 9) : w.cell? ⟨b, off + i * 9 + j, none⟩ = (S.getD i Sp.zero).cells[j]? := by
  have h1 := h.cell i j hi hj
  have h2 : (S.getD i Sp.zero).cells[j]? = some ((S.getD i Sp.zero).cells[j]'hj) := Array.getElem?_eq_getElem _
  rw [h2] at h1 ⊢
  exact keep_cell h1 hb
theorem step_cells {W w : World} {v : Value} {S : List Sp} {ao : Option Addr} {b off cap : Nat} (h : StepsAt W v S ao b off cap) (hb : Below W.heap.size W w) {i : Nat} (hi : i < S.length) {o : Sp} (ho : S.getD i Sp.zero = o) :
    w.cell? ⟨b, off + i * 9, none⟩ = some (.int .i64 o.flow) ∧ w.cell? ⟨b, off + i * 9 + 1, none⟩ = some (.int .i64 o.how) ∧ w.cell? ⟨b, off + i * 9 + 2, none⟩ = some (.int .u16 o.seq) ∧ w.cell? ⟨b, off + i * 9 + 3, none⟩ = some (.int .u32 o.time) ∧ w.cell? ⟨b, off + i * 9 + 4, none⟩ = some (.int .u16 o.id) ∧ w.cell? ⟨b, off + i * 9 + 5, none⟩ = some (.int .u8 o.flags) ∧ w.cell? ⟨b, off + i * 9 + 6, none⟩ = some (.string (bs o.body)) ∧ w.cell? ⟨b, off + i * 9 + 7, none⟩ = some (.bool o.lose) ∧ w.cell? ⟨b, off + i * 9 + 8, none⟩ = some (.string (bs o.hear)) := by
  subst ho
  exact ⟨step_cell h hb hi (j := 0) (by omega), step_cell h hb hi (j := 1) (by omega), step_cell h hb hi (j := 2) (by omega), step_cell h hb hi (j := 3) (by omega), step_cell h hb hi (j := 4) (by omega), step_cell h hb hi (j := 5) (by omega), step_cell h hb hi (j := 6) (by omega), step_cell h hb hi (j := 7) (by omega), step_cell h hb hi (j := 8) (by omega)⟩

/-- what one step makes of a line -/
structure OneStep (m : Ln) (X : Snd) (Y : Rcv) (o : Sp) (b s y : Nat) (P : Pk) (F : List UInt8) (D N : Nat) (X2 : Snd) (m1 m2 : Ln) : Prop where
  pok : P.ok
  pb : P.body.length ≤ 100
  f : F = sendF X P
  fl : F.length ≤ 123
  d : D = chooseN X P.src P.dst P.port
  d8 : D < 8
  dc : D < Y.cids
  x2 : X2 = sendM X P
  m2s : m2.s = s
  m2r : m2.r = y
  lin : Lin m2 X2 Y
  n : N = (if sendK X P = 3 then 0 else m.since.getD D 0 + 1)
  nr : N < m2.refresh
  since : m2.cells[93 + D]? = some (.int .i64 (N : Nat))
  packet : ∀ w, LnAt w b m → Calls Try.prog 39 #[.pointer (some ⟨b, 0, none⟩), .agg o.cells] w fun e w' => e = .returned (.agg P.cells) ∧ LnAt w' b m1 ∧ Only (· = b) w w'
  send : ∀ w, LnAt w b m1 → SndAt w s X → b ≠ s → Calls Try.prog 40 #[.pointer (some ⟨b, 0, none⟩), .agg P.cells] w fun e w' => e = .returned (.tuple #[.string (bs F), .int .i64 (D : Nat), .bool true]) ∧ LnAt w' b m2 ∧ SndAt w' s X2 ∧ Only (fun k => k = b ∨ k = s) w w'
theorem one_step {m : Ln} {X : Snd} {Y : Rcv} {o : Sp} {b s y : Nat} (hlin : Lin m X Y) (ho : o.ok) (hms : m.s = s) (hmr : m.r = y) : ∃ P F D N X2 m1 m2, OneStep m X Y o b s y P F D N X2 m1 m2 := by
  obtain ⟨hpo, hpb⟩ := packetK_ok hlin.mo ho
  have lin1 : Lin (m.setLast (flowN o) (packetK m o)) X Y := hlin.packet _ hpo
  have hDc := lin1.choose (packetK m o)
  have hD8 := chooseN_lt lin1.xo (packetK m o).src (packetK m o).dst (packetK m o).port
  have lin2 := lin1.send hpo
  have hag := (aged_send lin1.xo lin1.mo.since lin1.aged (packetK m o)).2
  refine ⟨packetK m o, _, _, _, _, m.setLast (flowN o) (packetK m o), (m.setLast (flowN o) (packetK m o)).setSince (chooseN X (packetK m o).src (packetK m o).dst (packetK m o).port) (if sendK X (packetK m o) = 3 then 0 else m.since.getD (chooseN X (packetK m o).src (packetK m o).dst (packetK m o).port) 0 + 1), ⟨hpo, hpb, rfl, frame_short lin1.xo hpb, rfl, hD8, by rw [lin1.yc]; exact hDc, rfl, hms, hmr, lin2, rfl, ?_, ?_, fun w h => kpacket_any m b o w hlin.mo h ho, fun w h1 h2 h3 => ?_⟩⟩
  · show _ < m.refresh
    rw [← hlin.xr]
    exact hag
  · refine (Ln.getSince lin2.mo _ hD8).trans ?_
    show some (Value.int .i64 (((m.since.set _ _).getD _ 0 : Nat) : Int)) = _
    rw [getD_set _ _ _ _ (by rw [hlin.mo.since]; omega), if_pos rfl]
    rfl
  · have := ksend_any (m.setLast (flowN o) (packetK m o)) b X (packetK m o) w lin1.mo lin1.xo hpo hpb h1 (by show SndAt w m.s X; rw [hms]; exact h2) (by show b ≠ m.s; rw [hms]; exact h3) lin1.cnt hDc (fun i => by have := lin1.since i; omega)
    have e : (m.setLast (flowN o) (packetK m o)).s = s := hms
    rw [e] at this
    exact this

/-- a line's memory -/
theorem LinAt.parts {w : World} {b s y : Nat} {m : Ln} {x : Snd} {r : Rcv} (h : LinAt w b m x r) (hs : m.s = s) (hr : m.r = y) : LnAt w b m ∧ SndAt w s x ∧ RcvAt w y r ∧ b ≠ s ∧ b ≠ y ∧ s ≠ y := by
  subst hs hr
  exact ⟨h.ln, h.snd, h.rcv, h.bs, h.br, h.sr⟩
theorem LinAt.make {w : World} {b s y : Nat} {m : Ln} {x : Snd} {r : Rcv} (h1 : LnAt w b m) (h2 : SndAt w s x) (h3 : RcvAt w y r) (hbs : b ≠ s) (hby : b ≠ y) (hsy : s ≠ y) (hs : m.s = s) (hr : m.r = y) : LinAt w b m x r := by
  subst hs hr
  exact ⟨h1, h2, h3, hbs, hby, hsy⟩
/-- Take, whatever it answers -/
theorem take_call (Y : Rcv) (y : Nat) (l : List UInt8) (w : World) (hy : Y.ok) (h : RcvAt w y Y) (hl : l.length ≤ 9223372036854775807) :
    Calls Try.prog 44 #[.pointer (some ⟨y, 0, none⟩), .string (bs l)] w fun e w' => (∃ v, e = .returned v) ∧ RcvAt w' y (takeM Y l) ∧ Only (· = y) w w' :=
  (gtake_any Y y l w hy h hl).mono fun e w' ⟨h1, h2, h3⟩ => ⟨⟨_, h1⟩, h2, h3⟩
theorem hear_call (X : Snd) (s : Nat) (l : List UInt8) (w : World) (hx : X.ok) (h : SndAt w s X) (hl : l.length ≤ maxLen) :
    Calls Try.prog 42 #[.pointer (some ⟨s, 0, none⟩), .string (bs l)] w fun e w' => (∃ v, e = .returned v) ∧ SndAt w' s (hearM X l) ∧ Only (· = s) w w' :=
  (ghear_any X s l w hx h hl).mono fun e w' ⟨h1, h2, h3⟩ => ⟨⟨_, h1⟩, h2, h3⟩

end Go.Proofs.Ytgpojbgjfibblaa.texts

namespace Go.Proofs.Ytgpojbgjfibblaa.texts
open Go.RowKit
set_option linter.unusedVariables false
attribute [local go_sem ↓] Go.wp_at_zero Go.wp_at_succ
attribute [local go_sem] bs_size bs_extract bs_list

/-- a frame of a packet -/
def Made (cids : Nat) (F : List UInt8) (p : Pk) : Prop :=
  p.ok ∧ p.body.length ≤ 100 ∧ ∃ k t c n s, k ≤ 3 ∧ t < 4 ∧ c < cids ∧ c < 8 ∧ s < 65536 ∧ n = stateN p s ∧ F = frameN k t c n p
theorem made_step {m : Ln} {X : Snd} {Y : Rcv} {o : Sp} {b s y : Nat} {P : Pk} {F : List UInt8} {D N : Nat} {X2 : Snd} {m1 m2 : Ln} (h : OneStep m X Y o b s y P F D N X2 m1 m2) (hX : X.ok) : Made Y.cids F P := by
  have mo := met_ok hX h.pok
  refine ⟨h.pok, h.pb, sendK X P, (metN X P).turn, D, nextN X P, strideN (metN X P) P, kindN_le _ _ _, mo.turn, h.dc, h.d8, strideN_lt mo P, rfl, ?_⟩
  rw [h.f, h.d]
  rfl
theorem takeP_ok {Y : Rcv} (hY : Y.ok) (l : List UInt8) : (takeP Y l).ok := by
  unfold takeP
  split
  · exact zeroP_ok
  · rename_i f hf
    split
    · exact madeN_ok (Rcv.at_ok hY _) (readF_ok hf).1
    · exact zeroP_ok
theorem honest_facts {Y : Rcv} (hY : Y.ok) {F : List UInt8} {p : Pk} (h : Made Y.cids F p) :
    ∃ k, k ≤ 3 ∧ byteN F 0 / 64 = k ∧ byteN F 0 < 256 ∧ 0 < F.length ∧ F.length ≤ 123 ∧
      ((k = 3 ∧ takeE Y F = 0 ∧ takeP Y F = p) ∨
       (k ≠ 3 ∧ takeE Y F = 0 ∧ (takeP Y F).body = p.body ∧ chk (widthN k) (takeP Y F) = chk (widthN k) p) ∨
       (k ≠ 3 ∧ (takeE Y F = 8 ∨ takeE Y F = 9 ∨ takeE Y F = 10) ∧ takeP Y F = zeroP)) := by
  obtain ⟨hp, hb, k, t, c, n, s, hk, ht, hc, hc8, hs, hn, rfl⟩ := h
  obtain ⟨f1, f2, f3, f4, f5⟩ := first_byte hk ht hc8
  have e : frameN k t c n p = be (64 * k + 16 * t + 2 * c) 1 ++ (toldN k n p ++ p.body) := by simp [frameN]
  have hby : byteN (frameN k t c n p) 0 = 64 * k + 16 * t + 2 * c := by rw [e]; exact byteN_be _ f5 _
  have hl := toldN_length k n p
  refine ⟨k, hk, by rw [hby]; exact f1, by rw [hby]; exact f5, by rw [e]; simp [be_length]; omega, by rw [e]; simp [be_length]; omega, ?_⟩
  by_cases h3 : k = 3
  · obtain ⟨e1, e2, _, _⟩ := take_good (m := Y) hk ht hc hc8 hp hs hn hb (Or.inl h3)
    exact Or.inl ⟨h3, e1, e2⟩
  · rcases take_some (m := Y) hk ht hc hc8 hp hs hn hb with ⟨e1, e2, e3⟩ | ⟨e1, e2, e3⟩
    · exact Or.inr (Or.inl ⟨h3, e1, e2, e3⟩)
    · exact Or.inr (Or.inr ⟨h3, e1, e2⟩)

theorem text_head (p : Pk) : (textL p).take 19 = hdrL p := by
  unfold textL bareL
  rw [List.append_assoc, List.append_assoc, List.take_append_of_le_length (by rw [hdrL_length]; omega)]
  rw [List.take_of_length_le (by rw [hdrL_length]; omega)]
theorem text_len (p : Pk) : (textL p).length = 22 + p.body.length := by
  unfold textL
  rw [List.length_append, bareL_length, be_length]
  omega

set_option maxRecDepth 100000 in
set_option maxHeartbeats 1000000 in
theorem khead_any (p : Pk) (w : World) (hp : p.ok) (hb : p.body.length ≤ 100) :
    Calls Try.prog 77 #[.agg p.cells] w fun e w' => e = .returned (.tuple #[.string (bs (hdrL p)), .bool true]) ∧ Below w.heap.size w w' := by
  have X := hide (show ∀ w : World, Calls Try.prog 27 #[.agg p.cells] w fun e w' => e = .returned (.tuple #[.string (bs (textL p)), .int .i64 0]) ∧ Below w.heap.size w w' by
    intro w
    have := gwrite_any p w hp (by omega)
    unfold writeR writeE at this
    rw [if_pos hb, if_pos hb] at this
    exact this)
  have hl := text_len p
  have ht := text_head p
  obtain ⟨T, hT⟩ : ∃ T, T = textL p := ⟨_, rfl⟩
  rw [← hT] at X hl ht
  have hT19 : (19 : Int) ≤ (T.length : Int) := by omega
  have hT22 : ¬ ((T.length : Int) < 22) := by omega
  have Ht := hide ht
  clear hp hT ht
  unfold Pk.cells
  go_enter Try.func77, Try.ntmps77
  go_wp2_with (go_at_call 27; refine (unhide X _).mono ?_; rintro e w1 ⟨rfl, hb1⟩; have HB := hide (grew_call ((Below.refl _ _).alloc (Nat.le_refl _) _) hb1); clear hb1)
  go_ret2
  refine ⟨?_, unhide HB⟩
  rw [unhide Ht]
  rfl

set_option maxRecDepth 100000 in
set_option maxHeartbeats 1000000 in
theorem kwidth_any (F : List UInt8) (k : Nat) (w : World) (hk : k ≤ 3) (h0 : 0 < F.length) (hl : F.length ≤ 123) (hb : byteN F 0 / 64 = k) :
    Calls Try.prog 78 #[.string (bs F)] w fun e w' => e = .returned (.int .i64 (widthN k : Nat)) ∧ w' = w := by
  have h00 : 0 < (bs F).size := by rw [bs_size]; omega
  have hby := byte_at F 0 (by omega) h00
  have hB := byteN_lt F 0
  generalize byteN F 0 = B at *
  by_cases k0 : k = 0
  · have q : (B : Int) / 64 = 0 := by omega
    have e : widthN k = 3 := by unfold widthN; rw [if_pos k0]
    rw [e]
    clear hb
    go_enter Try.func78, Try.ntmps78
    go_wp2
    go_ret
    exact ⟨rfl, rfl⟩
  · by_cases k1 : k = 1
    · have q : (B : Int) / 64 = 1 := by omega
      have e : widthN k = 7 := by unfold widthN; rw [if_neg k0, if_pos k1]
      rw [e]
      clear hb
      go_enter Try.func78, Try.ntmps78
      go_wp2
      go_ret
      exact ⟨rfl, rfl⟩
    · have q : ((B : Int) / 64 == 0) = false := by rw [beq_eq_false_iff_ne]; omega
      have q1 : ((B : Int) / 64 == 1) = false := by rw [beq_eq_false_iff_ne]; omega
      have q2 : ¬ ((B : Int) / 64 = 0) := by omega
      have q3 : ¬ ((B : Int) / 64 = 1) := by omega
      have e : widthN k = 8 := by unfold widthN; rw [if_neg k0, if_neg k1]
      rw [e]
      clear hb
      go_enter Try.func78, Try.ntmps78
      go_wp2
      go_ret
      exact ⟨rfl, rfl⟩

theorem crc_width (k : Nat) (p : Pk) : bits.crcR (widthN k : Nat) (hdrL p) = (chk (widthN k) p : Nat) ∧ bits.crcE (widthN k : Nat) = 0 := by
  have h : ((widthN k : Nat) : Int) = 3 ∨ ((widthN k : Nat) : Int) = 7 ∨ ((widthN k : Nat) : Int) = 8 := by
    rcases widthN_cases k with h | h | h <;> rw [h]
    · exact Or.inl rfl
    · exact Or.inr (Or.inl rfl)
    · exact Or.inr (Or.inr rfl)
  unfold bits.crcR bits.crcE
  rw [if_pos h, if_pos h]
  exact ⟨rfl, rfl⟩

set_option maxRecDepth 100000 in
set_option maxHeartbeats 4000000 in
theorem honest_any (m : Ln) (b : Nat) (Y : Rcv) (F : List UInt8) (p : Pk) (w : World) (hY : Y.ok) (h : LnAt w b m) (hr : RcvAt w m.r Y) (hne : b ≠ m.r) (hm : Made Y.cids F p) :
    Calls Try.prog 43 #[.pointer (some ⟨b, 0, none⟩), .string (bs F), .agg p.cells] w fun e w' => e = .returned (.bool true) ∧ RcvAt w' m.r (takeM Y F) ∧ Only (· = m.r) w w' := by
  obtain ⟨k, hk, hby, hB256, h0, hl, hcase⟩ := honest_facts hY hm
  have hPo := takeP_ok hY F
  have c4 : (w.alloc (.cells p.cells 51)).cell? ⟨b, 4, none⟩ = some (.pointer (some ⟨m.r, 0, none⟩)) := by
    rw [block_cell (block_alloc h _), Ln.get0 m 4 (by omega)]
    rfl
  have H := hide (block_alloc hr (.cells p.cells 51) : RcvAt (w.alloc (.cells p.cells 51)) m.r Y)
  have hrw := block_lt hr
  have X := hide (show ∀ w : World, RcvAt w m.r Y → Calls Try.prog 44 #[.pointer (some ⟨m.r, 0, none⟩), .string (bs F)] w fun e w' => e = .returned (.tuple #[.agg (takeP Y F).cells, .string (bs (takeB Y F)), .int .i64 (takeE Y F)]) ∧ RcvAt w' m.r (takeM Y F) ∧ Only (· = m.r) w w' from
    fun w hw => gtake_any Y m.r F w hY hw (by omega))
  have HP := hide (heap_alloc_new w (.cells p.cells 51))
  have h00 : 0 < (bs F).size := by rw [bs_size]; omega
  have hbyt := byte_at F 0 (by omega) h00
  have XW := hide (show ∀ w : World, _ from fun w => kwidth_any F k w hk h0 hl hby)
  obtain ⟨hpo, hpb, _⟩ := hm
  have XH := hide (show ∀ w : World, _ from fun w => khead_any p w hpo hpb)
  obtain ⟨B, hB⟩ : ∃ B, B = byteN F 0 := ⟨_, rfl⟩
  rw [← hB] at hby hB256 hbyt
  clear hB h hr hY
  rcases hcase with ⟨h3, g1, g2⟩ | ⟨h3, g1, g2, g3⟩ | ⟨h3, g1, g2⟩
  · rw [g1, g2] at X
    clear g1 g2 hPo
    unfold Pk.cells at c4 ⊢
    go_enter Try.func43, Try.ntmps43
    go_wp2_with (go_at_call 44; refine (unhide X _ (unhide H)).mono ?_; unfold Pk.cells; rintro e w1 ⟨rfl, h1, h2⟩; have G := h2.keep (unhide HP) (by omega); obtain ⟨p0, p1, p2, p3, p4, p5, p6, p7⟩ := cells8 G; have hz := block_lt G; have H1 := hide h1; have H2 := hide h2; clear h1 h2 G)
    go_ret
    exact ⟨rfl, block_alloc (unhide H1) _, ((Only.of_below ((Below.refl _ _).alloc (Nat.le_refl _) _)).trans (unhide H2)).alloc _⟩
  · rw [g1] at X
    have cw := crc_width k p
    have cq := crc_width k (takeP Y F)
    rw [g3] at cq
    have hqb : (takeP Y F).body.length ≤ 100 := by rw [g2]; exact hpb
    have XQ := hide (show ∀ w : World, _ from fun w => khead_any (takeP Y F) w hPo hqb)
    obtain ⟨q, hq⟩ : ∃ q, q = takeP Y F := ⟨_, rfl⟩
    rw [← hq] at X XQ g2 cq
    obtain ⟨V, hV⟩ : ∃ V, V = chk (widthN k) p := ⟨_, rfl⟩
    obtain ⟨Wd, hWd⟩ : ∃ Wd, Wd = widthN k := ⟨_, rfl⟩
    rw [← hV] at cw cq
    rw [← hWd] at cw cq XW
    have XC1 := hide (show ∀ w : World, Calls Try.prog 13 #[.int .i64 (Wd : Nat), .string (bs (hdrL p))] w fun e w' => e = .returned (.tuple #[.int .u8 (V : Nat), .int .i64 0]) ∧ w' = w by
      intro w
      have := bits.crc_any (Wd : Nat) (bs (hdrL p)) w (by rw [bs_size, hdrL_length]; decide)
      rw [show (bs (hdrL p)).data.toList = hdrL p by simp [bs], cw.1, cw.2] at this
      exact this)
    have XC2 := hide (show ∀ w : World, Calls Try.prog 13 #[.int .i64 (Wd : Nat), .string (bs (hdrL q))] w fun e w' => e = .returned (.tuple #[.int .u8 (V : Nat), .int .i64 0]) ∧ w' = w by
      intro w
      have := bits.crc_any (Wd : Nat) (bs (hdrL q)) w (by rw [bs_size, hdrL_length]; decide)
      rw [show (bs (hdrL q)).data.toList = hdrL q by simp [bs], cq.1, cq.2] at this
      exact this)
    have qk : ((B : Int) / 64 != 3) = true := by rw [bne_iff_ne]; omega
    have qk2 : ¬ ((B : Int) / 64 = 3) := by omega
    generalize hdrL q = hq' at XQ XC2
    generalize hdrL p = hp' at XH XC1
    clear g1 g3 hPo cw cq hq hV hWd hqb hpo
    obtain ⟨q1, q2, q3, q4, q5, q6, q7, q8⟩ := q
    simp only at g2
    subst g2
    unfold Pk.cells at c4 ⊢
    go_enter Try.func43, Try.ntmps43
    go_upto_region 4 with (go_at_call 44; refine (unhide X _ (unhide H)).mono ?_; unfold Pk.cells; rintro e w1 ⟨rfl, h1, h2⟩; have hz : w.heap.size < w1.heap.size := block_lt (h2.keep (unhide HP) (by omega)); have H1 := hide h1; have H2 := hide h2; clear h1 h2)
    have G1 : (w1.alloc (.cells (Pk.cells ⟨q1, q2, q3, q4, q5, q6, q7, p.body⟩) 51)).heap[w.heap.size]? = some (.cells p.cells 51 (0, 0)) := block_alloc ((unhide H2).keep (unhide HP) (by omega)) _
    have Q1 : (w1.alloc (.cells (Pk.cells ⟨q1, q2, q3, q4, q5, q6, q7, p.body⟩) 51)).heap[w1.heap.size]? = some (.cells (Pk.cells ⟨q1, q2, q3, q4, q5, q6, q7, p.body⟩) 51 (0, 0)) := heap_alloc_new w1 _
    have R1 : RcvAt (w1.alloc (.cells (Pk.cells ⟨q1, q2, q3, q4, q5, q6, q7, p.body⟩) 51)) m.r (takeM Y F) := block_alloc (unhide H1) _
    have O1 : Only (· = m.r) w (w1.alloc (.cells (Pk.cells ⟨q1, q2, q3, q4, q5, q6, q7, p.body⟩) 51)) := ((Only.of_below ((Below.refl _ _).alloc (Nat.le_refl _) _)).trans (unhide H2)).alloc _
    unfold Pk.cells at G1 Q1 R1 O1
    generalize w1.alloc (.cells #[Value.int IntKind.u32 (q1 : Int), Value.int IntKind.u32 (q2 : Int), Value.int IntKind.u16 (q3 : Int), Value.int IntKind.u16 (q4 : Int), Value.int IntKind.u32 (q5 : Int), Value.int IntKind.u16 (q6 : Int), Value.int IntKind.u8 (q7 : Int), Value.string (bs p.body)] 51) = w2 at G1 Q1 R1 O1 ⊢
    generalize w1.heap.size = gq at hz Q1 ⊢
    obtain ⟨a0, a1, a2, a3, a4, a5, a6, a7⟩ := cells8 (p := p) G1
    obtain ⟨b0, b1, b2, b3, b4, b5, b6, b7⟩ := cells8 (p := ⟨q1, q2, q3, q4, q5, q6, q7, p.body⟩) Q1
    have HU := hide (show _ ∧ _ ∧ _ ∧ _ from ⟨G1, Q1, R1, O1⟩)
    clear G1 Q1 R1 O1 H1 H2 c4
    go_cut [53] (fun v wx => (∃ β : Bool, v = .bool β) ∧ wx = w2)
    case first =>
      go_wp2_with fail
      all_goals
        go_meet
        case rel => exact ⟨⟨_, rfl⟩, rfl⟩
    case rest =>
      obtain ⟨⟨β, rfl⟩, rfl⟩ := hcut
      cases β with
      | true =>
        go_wp2_with fail
        go_ret
        exact ⟨rfl, (unhide HU).2.2.1, (unhide HU).2.2.2⟩
      | false =>
        go_upto_region 7 with (go_at_call 77; refine (unhide XH _).mono ?_; rintro e w3 ⟨rfl, hb3⟩; obtain ⟨d0, d1, d2, d3, d4, d5, d6, d7⟩ := cells8 (p := p) (block_keep (unhide HU).1 hb3); obtain ⟨e0, e1, e2, e3, e4, e5, e6, e7⟩ := cells8 (p := ⟨q1, q2, q3, q4, q5, q6, q7, p.body⟩) (block_keep (unhide HU).2.1 hb3); have HB3 := hide hb3; clear hb3)
        go_upto_region 8 with (go_at_call 77; refine (unhide XQ _).mono ?_; rintro e w4 ⟨rfl, hb4⟩; have f7 := (cells8 (p := p) (block_keep (block_keep (unhide HU).1 (unhide HB3)) hb4)).2.2.2.2.2.2.2; have g7 := (cells8 (p := ⟨q1, q2, q3, q4, q5, q6, q7, p.body⟩) (block_keep (block_keep (unhide HU).2.1 (unhide HB3)) hb4)).2.2.2.2.2.2.2; have HB4 := hide hb4; clear hb4)
        go_upto_region 9 with (first
          | (go_at_call 78; refine (unhide XW _).mono ?_; rintro e w' ⟨rfl, hw'⟩; have hw2 := hw'.symm; subst hw2)
          | (go_at_call 13; refine (unhide XC1 _).mono ?_; rintro e w' ⟨rfl, hw'⟩; have hw2 := hw'.symm; subst hw2))
        go_wp2_with (first
          | (go_at_call 78; refine (unhide XW _).mono ?_; rintro e w' ⟨rfl, hw'⟩; have hw2 := hw'.symm; subst hw2)
          | (go_at_call 13; refine (unhide XC2 _).mono ?_; rintro e w' ⟨rfl, hw'⟩; have hw2 := hw'.symm; subst hw2))
        go_ret
        have bel : Below wc.heap.size wc w4 := grew_call (unhide HB3) (unhide HB4)
        exact ⟨rfl, block_keep (unhide HU).2.2.1 bel, (unhide HU).2.2.2.trans (Only.of_below bel)⟩
  · rw [g2, show zeroP.cells = #[.int .u32 0, .int .u32 0, .int .u16 0, .int .u16 0, .int .u32 0, .int .u16 0, .int .u8 0, .string ⟨#[]⟩] from rfl] at X
    have qk : ((B : Int) / 64 != 3) = true := by rw [bne_iff_ne]; omega
    have qk2 : ¬ ((B : Int) / 64 = 3) := by omega
    obtain ⟨E, hE⟩ : ∃ E, E = takeE Y F := ⟨_, rfl⟩
    rw [← hE] at X g1
    clear g2 hPo hE
    unfold Pk.cells at c4 ⊢
    rcases g1 with rfl | rfl | rfl
    all_goals
      go_enter Try.func43, Try.ntmps43
      go_wp2_with (go_at_call 44; refine (unhide X _ (unhide H)).mono ?_; rintro e w1 ⟨rfl, h1, h2⟩; have hz : w.heap.size < w1.heap.size := block_lt (h2.keep (unhide HP) (by omega)); have H1 := hide h1; have H2 := hide h2; clear h1 h2)
      go_ret
      exact ⟨rfl, block_alloc (unhide H1) _, ((Only.of_below ((Below.refl _ _).alloc (Nat.le_refl _) _)).trans (unhide H2)).alloc _⟩

end Go.Proofs.Ytgpojbgjfibblaa.texts
