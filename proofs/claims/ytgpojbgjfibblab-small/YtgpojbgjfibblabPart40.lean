/-
  A line that heals, in plain numbers: how long ago a context's last whole frame was; contexts that stand where the sender stands. A flow that goes on regularly, in plain numbers: its states differ in Seq alone. A packet among the arguments, opened: its cells, and that its numbers have their widths.
  Conditions stand in each theorem.
-/
import Derived.Test.YtgpojbgjfibblabPart38
import Derived.Test.YtgpojbgjfibblabPart2
import Derived.ProofKit
import Derived.OpenShut
namespace Go.Proofs.Ytgpojbgjfibblab.texts
open Go.RowKit
set_option linter.unusedVariables false

/-- contexts at which the receiver stands where the sender does -/
def Well (x : Snd) (y : Rcv) (healed : List Bool) : Prop := ∀ i, i < 8 → healed.getD i false = true → 0 < (x.at_ i).kept ∧ Sees (y.at_ i) (x.at_ i) (x.at_ i).s0
theorem s0_mem {c : Cx} (h : 0 < c.kept) : c.s0 ∈ c.sts := by
  unfold Cx.sts
  obtain ⟨q, hq⟩ : ∃ q, c.kept = q + 1 := ⟨c.kept - 1, by omega⟩
  rw [hq]
  simp
theorem well_knows {x : Snd} (hx : x.ok) {y : Rcv} {healed : List Bool} (h : Well x y healed) (p : Pk) (hh : sendK x p = 3 ∨ healed.getD (chooseN x p.src p.dst p.port) false = true) : Knows (y.at_ (chooseN x p.src p.dst p.port)) (sendK x p) (metN x p).turn (nextN x p) p := by
  by_cases hk : sendK x p = 3
  · exact Or.inl hk
  · have hc8 := chooseN_lt hx p.src p.dst p.port
    obtain ⟨e1, e2, e3, e4⟩ := met_old hx hk
    obtain ⟨_, hS⟩ := h _ hc8 (hh.resolve_left hk)
    obtain ⟨p1, p2, p3⟩ := met_on x p
    rw [← e1] at hS e2
    refine Or.inr ⟨hS.begun, hS.turn, hS.src.trans p1, hS.dst.trans p2, hS.port.trans p3, ?_⟩
    rw [hS.st]
    unfold sendK kindN
    rw [if_neg (by omega)]
    split
    · exact needsN_le _ _
    · exact least_ge (s0_mem e2)
theorem getB_set (l : List Bool) (i j : Nat) (n : Bool) (hi : i < l.length) : (l.set i n).getD j false = if j = i then n else l.getD j false := by
  simp only [List.getD_eq_getElem?_getD, List.getElem?_set]
  by_cases h : j = i
  · subst h; simp [hi]
  · rw [if_neg (fun e => h e.symm), if_neg h]
theorem sees_fall {r : Rx} {c : Cx} {s : St} (h : Sees r c s) (q : Nat) : Sees r (fallC q c) s := by
  unfold fallC
  split
  · exact ⟨h.begun, h.turn, h.src, h.dst, h.port, h.st⟩
  · exact h
/-- a healed context's frame comes: it is its packet -/
theorem well_comes {x : Snd} (hx : x.ok) {y : Rcv} (hy : y.ok) {healed : List Bool} (hl : healed.length = 8) (h : Well x y healed) {p : Pk} (hp : p.ok) (hb : p.body.length ≤ 100) (hc : chooseN x p.src p.dst p.port < y.cids) (hh : sendK x p = 3 ∨ healed.getD (chooseN x p.src p.dst p.port) false = true) :
    takeE y (sendF x p) = 0 ∧ takeP y (sendF x p) = p ∧ takeB y (sendF x p) = [] ∧ Well (sendM x p) (takeM y (sendF x p)) (healed.set (chooseN x p.src p.dst p.port) true) := by
  have hk := well_knows hx h p hh
  have hc8 := chooseN_lt hx p.src p.dst p.port
  have hmo := met_ok hx hp
  obtain ⟨p1, p2, p3⟩ := met_on x p
  obtain ⟨t1, t2, t3, t4⟩ := take_good (m := y) (k := sendK x p) (t := (metN x p).turn) (cid := chooseN x p.src p.dst p.port) (n := nextN x p) (p := p) (s := strideN (metN x p) p) (kindN_le _ _ _) hmo.turn hc hc8 hp (strideN_lt hmo p) rfl hb hk
  refine ⟨t1, t2, t3, ?_⟩
  show Well (sendM x p) (takeM y (frameN (sendK x p) (metN x p).turn (chooseN x p.src p.dst p.port) (nextN x p) p)) _
  rw [t4]
  intro i hi
  rw [getB_set _ _ _ _ (by omega), send_at hx p i hi, Rcv.set_at _ _ _ _ (by rw [hy.len]; omega)]
  by_cases e : i = chooseN x p.src p.dst p.port
  · rw [if_pos e, if_pos e, if_pos e]
    intro _
    exact ⟨(sent_rest _ _ _ _ hx.k1).2.1, ⟨rfl, rfl, p1.symm, p2.symm, p3.symm, rfl⟩⟩
  · rw [if_neg e, if_neg e, if_neg e]
    intro h3
    obtain ⟨h4, h5⟩ := h i hi h3
    rw [(fall_rest _ _).2.2.2, (fall_more _ _).2.2.1]
    exact ⟨h4, sees_fall h5 _⟩
/-- a frame of a context that is not healed -/
theorem well_other {x : Snd} (hx : x.ok) {y : Rcv} (hy : y.ok) {healed : List Bool} (hl : healed.length = 8) (h : Well x y healed) {p : Pk} (hp : p.ok) (hb : p.body.length ≤ 100) :
    Well (sendM x p) (takeM y (sendF x p)) (healed.set (chooseN x p.src p.dst p.port) false) := by
  have hc8 := chooseN_lt hx p.src p.dst p.port
  intro i hi
  rw [getB_set _ _ _ _ (by omega), send_at hx p i hi]
  by_cases e : i = chooseN x p.src p.dst p.port
  · rw [if_pos e]
    intro h; cases h
  · rw [if_neg e, if_neg e, take_other hy hx hp hb e]
    intro h3
    obtain ⟨h4, h5⟩ := h i hi h3
    rw [(fall_rest _ _).2.2.2, (fall_more _ _).2.2.1]
    exact ⟨h4, sees_fall h5 _⟩
theorem well_hear {x : Snd} (hx : x.ok) {y : Rcv} {healed : List Bool} (h : Well x y healed) (l : List UInt8) : Well (hearM x l) y healed := by
  rcases hear_cases x l with e | ⟨i, hi, hk, e | e⟩ <;> rw [e]
  · exact h
  all_goals
    intro j hj h3
    obtain ⟨h4, h5⟩ := h j hj h3
    rw [Snd.set_at _ _ _ _ (by rw [hx.len]; omega)]
    split
    · rename_i e; subst e; exact ⟨hk, ⟨h5.begun, h5.turn, h5.src, h5.dst, h5.port, h5.st⟩⟩
    · exact ⟨h4, h5⟩
theorem well_none (x : Snd) (y : Rcv) : Well x y (List.replicate 8 false) := by
  intro i hi h
  rw [List.getD_eq_getElem?_getD, List.getElem?_replicate, if_pos hi] at h
  cases h

end Go.Proofs.Ytgpojbgjfibblab.texts

namespace Go.Proofs.Ytgpojbgjfibblab.texts
open Go.RowKit
set_option linter.unusedVariables false

/-- the packet behind a regular one -/
def goP (p : Pk) (d : Nat) : Pk := ⟨p.src, p.dst, p.port, (p.seq + 1) % 65536, (p.time + d) % 4294967296, (p.id + 1) % 65536, p.flags, p.body⟩
theorem goP_ok {p : Pk} (hp : p.ok) (d : Nat) : (goP p d).ok := by
  refine ⟨hp.src, hp.dst, hp.port, ?_, ?_, ?_, hp.flags⟩
  · exact Nat.mod_lt _ (by decide)
  · exact Nat.mod_lt _ (by decide)
  · exact Nat.mod_lt _ (by decide)
/-- a state with another Seq -/
def St.at_ (s : St) (q : Nat) : St := ⟨q, s.stride, s.offset, s.lag, s.flags⟩
theorem lag_go (t d q T : Nat) (hq : d * q < 4294967296) (hq2 : d * (q + 1) < 4294967296) (ht : t < 4294967296) (hT : T = (t + d) % 4294967296) :
    (T + 4294967296 - d * (q + 1)) % 4294967296 = (t + 4294967296 - d * q) % 4294967296 := by
  rw [Nat.mul_succ] at hq2 ⊢
  generalize d * q = z at *
  omega
/-- the state behind a regular packet: Seq alone differs -/
theorem state_go {p : Pk} (hp : p.ok) {d : Nat} (hd : d < 65536) (hs : p.seq + 1 < 65536) (q : Nat) : (stateN (goP p d) d).at_ q = (stateN p d).at_ q := by
  have h1 := hp.id
  have h2 := hp.time
  have e0 : (p.seq + 1) % 65536 = p.seq + 1 := Nat.mod_eq_of_lt hs
  have e1 : ((p.id + 1) % 65536 + 65536 - (p.seq + 1)) % 65536 = (p.id + 65536 - p.seq) % 65536 := by omega
  have e2 := lag_go p.time d p.seq ((p.time + d) % 4294967296) (way_lt hd (by omega)) (way_lt hd hs) h2 rfl
  simp only [St.at_, stateN, goP, e0, e1, e2]

structure Row (keep : Nat) (c : Cx) (p : Pk) (d i : Nat) : Prop where
  kept : c.kept = min i keep
  whole : c.whole = keep - i
  full : c.full = 0
  prev : 0 < i → c.s0.seq + 1 = p.seq ∧ (timeN c.s0 + d) % 4294967296 = p.time
  sts : ∀ j s, c.sts[j]? = some s → j + 2 ≤ i → s = (stateN p d).at_ (p.seq - 1 - j)
  lo : i ≤ p.seq
  hi : p.seq ≤ 65000 + i
theorem row_stride {keep : Nat} {c : Cx} {p : Pk} {d i : Nat} (h : Row keep c p d i) (hk : 1 ≤ keep) (hd : d < 65536) (hi : 0 < i) (h300 : i ≤ 300) : strideN c p = d := by
  obtain ⟨e1, e2⟩ := h.prev hi
  have h1 := h.hi
  have hl := timeN_lt c.s0
  have hkk := h.kept
  unfold strideN
  rw [if_neg (by omega), e1, if_pos (by omega)]
  generalize timeN c.s0 = t at *
  omega
theorem fit_back (v j : Nat) (h : j ≤ 3) (hv : j + 1 ≤ v) : bits.fitR 16 (v : Int) ((v - 1 - j : Nat) : Int) 4 1 = true := by
  unfold bits.fitR
  rw [decide_eq_true_eq]
  have e : bits.cnt 4 16 = 16 := by decide
  rw [e]
  refine ⟨by decide, ?_⟩
  have e2 : ((2 : Int) ^ (16 : Int).toNat) = 65536 := by decide
  rw [e2]
  omega
theorem need_back (s : St) (j : Nat) (h : j ≤ 3) (hv : j + 1 ≤ s.seq) : needsN s (s.at_ (s.seq - 1 - j)) = 0 := by
  have := fit_back s.seq j h hv
  unfold needsN
  rw [if_pos ⟨rfl, rfl⟩, if_pos ⟨rfl, rfl, this⟩]
theorem foldl_max_zero (n : St) (l : List St) (h : ∀ s ∈ l, needsN n s = 0) : l.foldl (fun k r => max k (needsN n r)) 0 = 0 := by
  induction l with
  | nil => rfl
  | cons r l ih =>
    rw [List.foldl_cons, h r (List.mem_cons_self), Nat.max_self]
    exact ih (fun s hs => h s (List.mem_cons_of_mem _ hs))
theorem sts_len (c : Cx) (h : c.kept ≤ 4) : c.sts.length = c.kept := by
  unfold Cx.sts
  rw [List.length_take]
  simp only [List.length_cons, List.length_nil]
  omega
/-- from packet number keep + 2 on: TINY, or WHOLE where it is refreshed -/
theorem row_kind {keep : Nat} {c : Cx} {p : Pk} {d i : Nat} (h : Row keep c p d i) (hk : 1 ≤ keep) (hk4 : keep ≤ 4) (hd : d < 65536) (hi : keep + 1 ≤ i) (h300 : i ≤ 300) (refresh : Nat) :
    kindN c (stateN p (strideN c p)) refresh = 0 ∨ (kindN c (stateN p (strideN c p)) refresh = 3 ∧ refresh ≤ c.age + 1) := by
  rw [row_stride h hk hd (by omega) h300]
  have hw := h.whole
  have hf := h.full
  have hkk := h.kept
  have hlo := h.lo
  unfold kindN
  by_cases hr : refresh ≤ c.age + 1
  · right; rw [if_pos (Or.inr hr)]; exact ⟨rfl, hr⟩
  · left
    rw [if_neg (by omega), if_neg (by omega)]
    unfold leastN
    apply foldl_max_zero
    intro s hs
    obtain ⟨j, hj, e⟩ := List.getElem_of_mem hs
    have hj4 : j < c.kept := by rw [sts_len c (by omega)] at hj; exact hj
    have e2 := h.sts j s (by rw [List.getElem?_eq_getElem hj, e]) (by omega)
    rw [e2]
    exact need_back (stateN p d) j (by omega) (by show j + 1 ≤ p.seq; omega)
theorem kind_whole {c : Cx} {n : St} {refresh : Nat} (h : 0 < c.whole) : kindN c n refresh = 3 := by unfold kindN; rw [if_pos (Or.inl h)]
theorem row_send {keep : Nat} {c : Cx} {p : Pk} {d i : Nat} (h : Row keep c p d i) (hp : p.ok) (hk : 1 ≤ keep) (hk4 : keep ≤ 4) (hd : d < 65536) (h300 : i ≤ 300) (refresh : Nat) :
    Row keep (sentN c (kindN c (stateN p (strideN c p)) refresh) (stateN p (strideN c p)) keep) (goP p d) d (i + 1) := by
  have hhi := h.hi
  have hlo := h.lo
  have hkk := h.kept
  have hw := h.whole
  have hf := h.full
  have e0 : (p.seq + 1) % 65536 = p.seq + 1 := by omega
  have hst : strideN c p < 65536 := by
    by_cases h0 : 0 < i
    · rw [row_stride h hk hd h0 h300]; exact hd
    · unfold strideN; rw [if_pos (by omega)]; decide
  have eg : (goP p d).seq = p.seq + 1 := e0
  have et := timeN_stateN hp hst
  refine ⟨?_, ?_, ?_, fun _ => ⟨?_, ?_⟩, ?_, ?_, ?_⟩
  · simp only [sentN, addN]; split <;> omega
  · simp only [sentN, addN]
    by_cases h0 : 0 < c.whole
    · rw [if_pos (kind_whole h0)]; omega
    · split <;> omega
  · simp only [sentN, addN]; split <;> omega
  · rw [eg]; rfl
  · show (timeN (stateN p (strideN c p)) + d) % 4294967296 = (p.time + d) % 4294967296
    rw [et]
  · intro j s hj hji
    rw [sts_more c _ _ keep hk hk4 (by omega), List.getElem?_take] at hj
    split at hj
    · rw [eg, state_go hp hd (by omega)]
      cases j with
      | zero =>
        simp at hj
        rw [← hj, row_stride h hk hd (by omega) h300]
        rfl
      | succ j =>
        simp at hj
        rw [h.sts j s hj (by omega), show p.seq + 1 - 1 - (j + 1) = p.seq - 1 - j by omega]
    · cases hj
  · rw [eg]; omega
  · rw [eg]; omega

/-- a packet of the same flow meets the context that the last one left -/
theorem met_again {x : Snd} (hx : x.ok) {k : Nat} (hf : Fit x k) (p q : Pk) (h1 : q.src = p.src) (h2 : q.dst = p.dst) (h3 : q.port = p.port) (hs : (sendM x p).ok) :
    chooseN (sendM x p) q.src q.dst q.port = chooseN x p.src p.dst p.port ∧ metN (sendM x p) q = sentN (metN x p) (sendK x p) (nextN x p) x.keep := by
  have hc8 := chooseN_lt hx p.src p.dst p.port
  have ha := send_at hx p _ hc8
  rw [if_pos rfl] at ha
  obtain ⟨o1, o2, o3⟩ := met_on x p
  have key : ∃ k', Fit (sendM x p) k' ∧ chooseN x p.src p.dst p.port < k' := by
    rcases fit_send hx hf p with ⟨i, hi, e, _, h⟩ | ⟨hi, e, _, h⟩ | ⟨_, i, hi, e, _, _, h⟩
    · exact ⟨_, h, by omega⟩
    · exact ⟨_, h, by omega⟩
    · exact ⟨_, h, by omega⟩
  obtain ⟨k', hf', hlt⟩ := key
  have er : ((sendM x p).at_ (chooseN x p.src p.dst p.port)).src = q.src ∧ ((sendM x p).at_ (chooseN x p.src p.dst p.port)).dst = q.dst ∧ ((sendM x p).at_ (chooseN x p.src p.dst p.port)).port = q.port := by
    rw [ha, h1, h2, h3]
    exact ⟨o1, o2, o3⟩
  have ec := choose_known hs hf' hlt er
  refine ⟨ec, ?_⟩
  have hh : ((sendM x p).at_ (chooseN x p.src p.dst p.port)).hasB q.src q.dst q.port = true := by simp [Cx.hasB, hf'.has _ hlt, er]
  unfold metN
  simp only
  rw [ec, if_pos hh, ha]
  rfl
/-- the first packet of a new flow behind one of another -/
theorem met_first {c k r : Nat} (hx : (freshN c k r).ok) (p q : Pk) (h : q.src ≠ p.src) (hs : (sendM (freshN c k r) p).ok) : ∃ b, metN (sendM (freshN c k r) p) q = beginN b q.src q.dst q.port k := by
  have hc8 := chooseN_lt hs q.src q.dst q.port
  have ha := send_at hx p _ hc8
  obtain ⟨o1, o2, o3⟩ := met_on (freshN c k r) p
  have hh : ((sendM (freshN c k r) p).at_ (chooseN (sendM (freshN c k r) p) q.src q.dst q.port)).hasB q.src q.dst q.port = false := by
    rw [ha]
    split
    · simp only [Cx.hasB, decide_eq_false_iff_not]
      intro hc
      exact h (hc.2.1.symm.trans o1)
    · rw [fresh_at]
      simp only [Cx.hasB, decide_eq_false_iff_not, (fall_rest _ _).2.2.2]
      intro hc
      exact absurd hc.1 (by decide)
  refine ⟨(sendM (freshN c k r) p).at_ (chooseN (sendM (freshN c k r) p) q.src q.dst q.port), ?_⟩
  unfold metN
  simp only
  rw [if_neg (by rw [hh]; decide)]
  rfl
theorem row_begin {keep : Nat} (b : Cx) (p : Pk) (d : Nat) (hs : p.seq ≤ 65000) : Row keep (beginN b p.src p.dst p.port keep) p d 0 := by
  refine ⟨by simp [beginN], by simp [beginN], rfl, fun h => by omega, fun j s hj => ?_, by omega, by omega⟩
  simp [beginN, Cx.sts] at hj

end Go.Proofs.Ytgpojbgjfibblab.texts

namespace Go.Proofs.Ytgpojbgjfibblab.texts
open Go.RowKit
set_option linter.unusedVariables false

theorem cellsPacket : Try.prog.cellsOf 29 = 8 := by kernel_rfl
theorem cellsRoute : Try.prog.cellsOf 27 = 3 := by kernel_rfl
theorem cells8' : Try.prog.cellsOf 5 = 1 := by kernel_rfl
theorem cells16 : Try.prog.cellsOf 25 = 1 := by kernel_rfl
theorem cells32 : Try.prog.cellsOf 24 = 1 := by kernel_rfl
theorem cellsInt : Try.prog.cellsOf 3 = 1 := by kernel_rfl
theorem cellsString : Try.prog.cellsOf 9 = 1 := by kernel_rfl

theorem wf8 {a : Int} (h : (Lit.int .u8 a).wf = true) : ∃ n : Nat, a = n ∧ n < 256 := by
  have h : 0 ≤ a ∧ a ≤ 255 := by simpa [Lit.wf, IntKind.min, IntKind.max, IntKind.signed, IntKind.bits] using h
  exact ⟨a.toNat, by omega, by omega⟩
theorem wf16 {a : Int} (h : (Lit.int .u16 a).wf = true) : ∃ n : Nat, a = n ∧ n < 65536 := by
  have h : 0 ≤ a ∧ a ≤ 65535 := by simpa [Lit.wf, IntKind.min, IntKind.max, IntKind.signed, IntKind.bits] using h
  exact ⟨a.toNat, by omega, by omega⟩
theorem wf32 {a : Int} (h : (Lit.int .u32 a).wf = true) : ∃ n : Nat, a = n ∧ n < 4294967296 := by
  have h : 0 ≤ a ∧ a ≤ 4294967295 := by simpa [Lit.wf, IntKind.min, IntKind.max, IntKind.signed, IntKind.bits] using h
  exact ⟨a.toNat, by omega, by omega⟩

theorem list8 {α : Type} {l : List α} (h : l.length = 8) : ∃ a b c d e f g i, l = [a, b, c, d, e, f, g, i] := by
  match l, h with
  | [a, b, c, d, e, f, g, i], _ => exact ⟨a, b, c, d, e, f, g, i, rfl⟩
theorem list6 {α : Type} {l : List α} (h : l.length = 6) : ∃ a b c d e f, l = [a, b, c, d, e, f] := by
  match l, h with
  | [a, b, c, d, e, f], _ => exact ⟨a, b, c, d, e, f, rfl⟩

section
variable {H : Type} {enc : TypeId × Value → H} {w : World} {base : Nat} {spare : Nat → Bool} {held : Bool}

theorem open_route {fuel : Nat} {c0 c1 c2 : Value} {x : DataW H × List MemPlace} (h : DataW.trod enc Try.prog w base spare held fuel 27 [c0, c1, c2] = some x) :
    ∃ a b c : Nat, a < 4294967296 ∧ b < 4294967296 ∧ c < 65536 ∧ c0 = .int .u32 a ∧ c1 = .int .u32 b ∧ c2 = .int .u16 c ∧ x.1 = .agg [.lit (.int .u32 a), .lit (.int .u32 b), .lit (.int .u16 c)] := by
  obtain ⟨xs, n, _, rfl, hl, hlen, hf⟩ := DataW.trod_struct Try.underlying27 h
  match xs, hlen with
  | [y0, y1, y2], _ =>
    have f0 := hf 0 _ rfl
    have f1 := hf 1 _ rfl
    have f2 := hf 2 _ rfl
    simp [cells32, cells16] at f0 f1 f2
    obtain ⟨a, e0, d0, wa⟩ := DataW.trod_int Try.underlying24 f0
    obtain ⟨b, e1, d1, wb⟩ := DataW.trod_int Try.underlying24 f1
    obtain ⟨c, e2, d2, wc⟩ := DataW.trod_int Try.underlying25 f2
    obtain ⟨a, rfl, ha⟩ := wf32 wa
    obtain ⟨b, rfl, hb⟩ := wf32 wb
    obtain ⟨c, rfl, hc⟩ := wf16 wc
    simp at e0 e1 e2
    exact ⟨a, b, c, ha, hb, hc, e0, e1, e2, by simp [d0, d1, d2]⟩

set_option maxRecDepth 10000 in
theorem open_pk {fuel : Nat} {cs : List Value} {x : DataW H × List MemPlace} (h : DataW.trod enc Try.prog w base spare held fuel 29 cs = some x) :
    ∃ p : Pk, p.ok ∧ p.body.length ≤ maxLen ∧ cs = p.cells.toList ∧ x.1 = .agg [.agg [.lit (.int .u32 p.src), .lit (.int .u32 p.dst), .lit (.int .u16 p.port)], .lit (.int .u16 p.seq), .lit (.int .u32 p.time), .lit (.int .u16 p.id), .lit (.int .u8 p.flags), .lit (.string p.body)] := by
  obtain ⟨xs, n, _, rfl, hl, hlen, hf⟩ := DataW.trod_struct Try.underlying29 h
  rw [cellsPacket] at hl
  obtain ⟨c0, c1, c2, c3, c4, c5, c6, c7, rfl⟩ := list8 hl
  obtain ⟨y0, y1, y2, y3, y4, y5, rfl⟩ := list6 hlen
  have f0 := hf 0 _ rfl
  have f1 := hf 1 _ rfl
  have f2 := hf 2 _ rfl
  have f3 := hf 3 _ rfl
  have f4 := hf 4 _ rfl
  have f5 := hf 5 _ rfl
  simp [cellsRoute, cells32, cells16, cells8', cellsString] at f0 f1 f2 f3 f4 f5
  obtain ⟨a, b, c, ha, hb, hc, rfl, rfl, rfl, d0⟩ := open_route f0
  obtain ⟨q, e1, d1, wq⟩ := DataW.trod_int Try.underlying25 f1
  obtain ⟨t, e2, d2, wt⟩ := DataW.trod_int Try.underlying24 f2
  obtain ⟨i, e3, d3, wi⟩ := DataW.trod_int Try.underlying25 f3
  obtain ⟨f, e4, d4, wf⟩ := DataW.trod_int Try.underlying5 f4
  obtain ⟨s, e5, d5, ws⟩ := DataW.trod_string Try.underlying9 f5
  obtain ⟨q, rfl, hq⟩ := wf16 wq
  obtain ⟨t, rfl, ht⟩ := wf32 wt
  obtain ⟨i, rfl, hi⟩ := wf16 wi
  obtain ⟨f, rfl, hf'⟩ := wf8 wf
  simp at e1 e2 e3 e4 e5
  subst e1 e2 e3 e4 e5
  refine ⟨⟨a, b, c, q, t, i, f, s.data.toList⟩, ⟨ha, hb, hc, hq, ht, hi, hf'⟩, by simpa using ws, by simp [Pk.cells, bs_of], by simp [d0, d1, d2, d3, d4, d5]⟩
end

end Go.Proofs.Ytgpojbgjfibblab.texts
