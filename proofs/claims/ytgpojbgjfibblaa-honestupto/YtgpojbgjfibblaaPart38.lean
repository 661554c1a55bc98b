/-
  The walk of a line's configuration out of raw numbers (gistkeep.Setup.config). Both ends of a line in plain numbers: where a receiver's context stands among the states that the sender keeps for it. A line and its two ends in plain numbers: what each act of a script keeps.
  Conditions stand in each theorem.
-/
import Derived.Test.YtgpojbgjfibblaaPart10
import Derived.Test.YtgpojbgjfibblaaPart2
import Derived.Test.YtgpojbgjfibblaaPart23
namespace Go.Proofs.Ytgpojbgjfibblaa.texts
open Go.RowKit
set_option linter.unusedVariables false
attribute [local go_sem ↓] Go.wp_at_zero Go.wp_at_succ

/-- a number that may be raw -/
def Raw (x : Int) : Prop := -9223372036854775808 ≤ x ∧ x ≤ 9223372036854775807

set_option maxRecDepth 100000 in
set_option maxHeartbeats 2000000 in
theorem kconfig_any (a k r : Int) (w : World) (ha : Raw a) (hk : Raw k) (hr : Raw r) :
    Calls Try.prog 71 #[.agg #[.int .i64 a, .int .i64 k, .int .i64 r]] w fun e w' => e = .returned (.agg #[.int .i64 (1 + bits.pk a 8), .int .i64 (1 + bits.pk k 4), .int .i64 (2 + bits.pk r 99)]) ∧ Below w.heap.size w w' := by
  obtain ⟨b1, b1'⟩ := bits.pk_bd a 8 (by decide)
  obtain ⟨b2, b2'⟩ := bits.pk_bd k 4 (by decide)
  obtain ⟨b3, b3'⟩ := bits.pk_bd r 99 (by decide)
  obtain ⟨a1, a2⟩ := ha
  obtain ⟨k1, k2⟩ := hk
  obtain ⟨r1, r2⟩ := hr
  go_enter Try.func71, Try.ntmps71
  go_wp2_with fail
  go_region_held3 (fun w' => w'.cell? ⟨w.heap.size, 0, none⟩ = some (.int .i64 a) ∧ w'.cell? ⟨w.heap.size, 1, none⟩ = some (.int .i64 k) ∧ w'.cell? ⟨w.heap.size, 2, none⟩ = some (.int .i64 r))
    ((first | (refine ⟨by simp, by simp, by simp⟩) | (go_keep; done)))
    ((go_at_call 24; refine (bits.pick_any _ _ _ (by assumption) (by assumption) (by decide) (by decide)).mono ?_; rintro e w' ⟨rfl, rfl⟩))
  all_goals go_split_ands
  all_goals go_wp2
  all_goals
    refine bodyPost_ret (v := .agg #[.int .i64 (1 + bits.pk a 8), .int .i64 (1 + bits.pk k 4), .int .i64 (2 + bits.pk r 99)]) ?_ rfl ⟨rfl, (((Below.refl _ _).alloc (Nat.le_refl _) _).alloc (by simp) _).drew⟩
    simp [results, Try.results71, go_sem]
    refine ⟨?_, ?_, ?_⟩ <;> (rw [IntKind.wrap_i64]; omega)

end Go.Proofs.Ytgpojbgjfibblaa.texts

namespace Go.Proofs.Ytgpojbgjfibblaa.texts
open Go.RowKit
set_option linter.unusedVariables false

/-- one state more: the last keep of them -/
theorem sts_more (c : Cx) (kind : Nat) (n : St) (keep : Nat) (hk : 1 ≤ keep) (hk4 : keep ≤ 4) (hc : c.kept ≤ keep) : (sentN c kind n keep).sts = (n :: c.sts).take keep := by
  unfold Cx.sts
  simp only [sentN, addN]
  obtain rfl | rfl | rfl | rfl : keep = 1 ∨ keep = 2 ∨ keep = 3 ∨ keep = 4 := by omega
  all_goals
    generalize c.kept = q at *
    have : q = 0 ∨ q = 1 ∨ q = 2 ∨ q = 3 ∨ q = 4 := by omega
    rcases this with rfl | rfl | rfl | rfl | rfl <;> first | omega | simp
theorem foldl_max_ge (l : List St) (n : St) : ∀ (k : Nat), k ≤ l.foldl (fun k r => max k (needsN n r)) k ∧ ∀ s ∈ l, needsN n s ≤ l.foldl (fun k r => max k (needsN n r)) k := by
  induction l with
  | nil => intro k; exact ⟨Nat.le_refl _, fun s h => by cases h⟩
  | cons r l ih =>
    intro k
    obtain ⟨h1, h2⟩ := ih (max k (needsN n r))
    refine ⟨?_, ?_⟩
    · exact Nat.le_trans (Nat.le_max_left _ _) h1
    · intro s hs
      rcases List.mem_cons.1 hs with rfl | hs
      · exact Nat.le_trans (Nat.le_max_right _ _) h1
      · exact h2 s hs
theorem least_ge {c : Cx} {n s : St} (h : s ∈ c.sts) : needsN n s ≤ leastN c n := (foldl_max_ge c.sts n 0).2 s h

/-- a receiver's context that stands at a state of a sender's -/
structure Sees (r : Rx) (c : Cx) (s : St) : Prop where
  begun : r.begun = true
  turn : r.turn = c.turn
  src : r.src = c.src
  dst : r.dst = c.dst
  port : r.port = c.port
  st : r.st = s
/-- a context of which the last j frames were lost -/
structure Near (keep : Nat) (c : Cx) (r : Rx) (j : Nat) : Prop where
  lt : j < keep
  kept : c.kept ≤ keep
  here : j < c.kept → ∃ s, c.sts[j]? = some s ∧ Sees r c s
  gone : c.kept ≤ j → keep ≤ c.whole + c.kept
/-- a flow's route -/
def On (c : Cx) (p : Pk) : Prop := c.src = p.src ∧ c.dst = p.dst ∧ c.port = p.port

theorem near_begin (c : Cx) (a b d keep : Nat) (r : Rx) (j : Nat) (h : j < keep) : Near keep (beginN c a b d keep) r j :=
  ⟨h, by simp [beginN], fun h => by simp [beginN] at h, fun _ => by simp [beginN]⟩
theorem near_knows {keep : Nat} {c : Cx} {r : Rx} {j : Nat} (h : Near keep c r j) {p : Pk} (hp : On c p) (n : St) (refresh : Nat) : Knows r (kindN c n refresh) c.turn n p := by
  by_cases hw : 0 < c.whole ∨ refresh ≤ c.age + 1
  · left; unfold kindN; rw [if_pos hw]
  · have hj : j < c.kept := by
      rcases Nat.lt_or_ge j c.kept with h1 | h1
      · exact h1
      · have := h.gone h1; have := h.lt; omega
    obtain ⟨s, hs, hS⟩ := h.here hj
    obtain ⟨p1, p2, p3⟩ := hp
    refine Or.inr ⟨hS.begun, hS.turn, hS.src.trans p1, hS.dst.trans p2, hS.port.trans p3, ?_⟩
    rw [hS.st]
    unfold kindN
    rw [if_neg hw]
    split
    · exact needsN_le _ _
    · exact least_ge (List.mem_of_getElem? hs)
theorem sent_kept (c : Cx) (k : Nat) (n : St) (keep : Nat) (h : c.kept ≤ keep) : (sentN c k n keep).kept = min (c.kept + 1) keep := by
  simp only [sentN, addN]
  split <;> omega
theorem near_comes {keep : Nat} {c : Cx} {r : Rx} {j : Nat} (h : Near keep c r j) (hk4 : keep ≤ 4) {p : Pk} (hp : On c p) (n : St) (k : Nat) : Near keep (sentN c k n keep) (Rx.of p c.turn n) 0 := by
  have hl := h.lt
  have hk := h.kept
  obtain ⟨p1, p2, p3⟩ := hp
  refine ⟨by omega, by rw [sent_kept c k n keep hk]; omega, fun _ => ⟨n, ?_, ⟨rfl, rfl, p1.symm, p2.symm, p3.symm, rfl⟩⟩, fun hc => ?_⟩
  · rw [sts_more c k n keep (by omega) hk4 (by omega)]
    obtain ⟨q, rfl⟩ : ∃ q, keep = q + 1 := ⟨keep - 1, by omega⟩
    simp
  · rw [sent_kept c k n keep hk] at hc; omega
theorem near_lost {keep : Nat} {c : Cx} {r : Rx} {j : Nat} (h : Near keep c r j) (hk4 : keep ≤ 4) (hj : j + 1 < keep) (n : St) (k : Nat) : Near keep (sentN c k n keep) r (j + 1) := by
  have hk := h.kept
  refine ⟨hj, by rw [sent_kept c k n keep hk]; omega, fun hc => ?_, fun hc => ?_⟩
  · have hc2 : j < c.kept := by rw [sent_kept c k n keep hk] at hc; omega
    obtain ⟨s, hs, hS⟩ := h.here hc2
    refine ⟨s, ?_, ⟨hS.begun, hS.turn, hS.src, hS.dst, hS.port, hS.st⟩⟩
    rw [sts_more c k n keep (by omega) hk4 (by omega), List.getElem?_take, if_pos hj]
    simpa using hs
  · rw [sent_kept c k n keep hk] at hc ⊢
    have := h.gone (by omega)
    have e : (sentN c k n keep).whole = if k = 3 then c.whole - 1 else c.whole := rfl
    rw [e]
    split <;> omega
theorem near_fall {keep : Nat} {c : Cx} {r : Rx} {j : Nat} (h : Near keep c r j) (q : Nat) : Near keep (fallC q c) r j := by
  unfold fallC
  split
  · exact ⟨h.lt, h.kept, fun a => by obtain ⟨s, hs, hS⟩ := h.here a; exact ⟨s, hs, ⟨hS.begun, hS.turn, hS.src, hS.dst, hS.port, hS.st⟩⟩, h.gone⟩
  · exact h
theorem near_whole {keep : Nat} {c : Cx} {r : Rx} {j : Nat} (h : Near keep c r j) : Near keep { c with whole := keep } r j :=
  ⟨h.lt, h.kept, fun a => by obtain ⟨s, hs, hS⟩ := h.here a; exact ⟨s, hs, ⟨hS.begun, hS.turn, hS.src, hS.dst, hS.port, hS.st⟩⟩, fun _ => by simp⟩
theorem near_full {keep : Nat} {c : Cx} {r : Rx} {j : Nat} (h : Near keep c r j) : Near keep { c with full := keep } r j :=
  ⟨h.lt, h.kept, fun a => by obtain ⟨s, hs, hS⟩ := h.here a; exact ⟨s, hs, ⟨hS.begun, hS.turn, hS.src, hS.dst, hS.port, hS.st⟩⟩, h.gone⟩

/-- both ends, and how many frames in a row were lost on each context -/
def Both (x : Snd) (y : Rcv) (lost : List Nat) : Prop := ∀ i, i < 8 → lost.getD i 0 < x.keep ∧ (0 < (x.at_ i).kept → Near x.keep (x.at_ i) (y.at_ i) (lost.getD i 0))

theorem met_on (x : Snd) (p : Pk) : On (metN x p) p := by
  unfold metN
  simp only
  split
  · rename_i h
    simp [Cx.hasB] at h
    exact h.2
  · exact ⟨rfl, rfl, rfl⟩
/-- the context that a packet meets -/
theorem met_near {x : Snd} (hx : x.ok) {y : Rcv} {lost : List Nat} (h : Both x y lost) (p : Pk) : Near x.keep (metN x p) (y.at_ (chooseN x p.src p.dst p.port)) (lost.getD (chooseN x p.src p.dst p.port) 0) := by
  have hc := chooseN_lt hx p.src p.dst p.port
  obtain ⟨h1, h2⟩ := h _ hc
  unfold metN
  simp only
  split
  · rename_i hh
    simp [Cx.hasB] at hh
    exact h2 hh.1
  · exact near_begin _ _ _ _ _ _ _ h1
theorem getD_set (l : List Nat) (i j n : Nat) (hi : i < l.length) : (l.set i n).getD j 0 = if j = i then n else l.getD j 0 := by
  simp only [List.getD_eq_getElem?_getD, List.getElem?_set]
  by_cases h : j = i
  · subst h; simp [hi]
  · rw [if_neg (fun e => h e.symm), if_neg h]
/-- a frame comes: it is its packet -/
theorem both_comes {x : Snd} (hx : x.ok) {y : Rcv} (hy : y.ok) {lost : List Nat} (hl : lost.length = 8) (h : Both x y lost) {p : Pk} (hp : p.ok) (hb : p.body.length ≤ 100) (hc : chooseN x p.src p.dst p.port < y.cids) :
    takeE y (sendF x p) = 0 ∧ takeP y (sendF x p) = p ∧ takeB y (sendF x p) = [] ∧ takeM y (sendF x p) = y.set (chooseN x p.src p.dst p.port) (Rx.of p (metN x p).turn (nextN x p)) ∧
    Both (sendM x p) (takeM y (sendF x p)) (lost.set (chooseN x p.src p.dst p.port) 0) := by
  have hn := met_near hx h p
  have ho := met_on x p
  have hk := near_knows hn ho (nextN x p) x.refresh
  have hc8 := chooseN_lt hx p.src p.dst p.port
  have hmo := met_ok hx hp
  obtain ⟨t1, t2, t3, t4⟩ := take_good (m := y) (k := sendK x p) (t := (metN x p).turn) (cid := chooseN x p.src p.dst p.port) (n := nextN x p) (p := p) (s := strideN (metN x p) p) (kindN_le _ _ _) hmo.turn hc hc8 hp (strideN_lt hmo p) rfl hb hk
  refine ⟨t1, t2, t3, t4, ?_⟩
  show Both (sendM x p) (takeM y (frameN (sendK x p) (metN x p).turn (chooseN x p.src p.dst p.port) (nextN x p) p)) _
  rw [t4]
  intro i hi
  rw [getD_set _ _ _ _ (by omega), send_at hx p i hi, Rcv.set_at _ _ _ _ (by rw [hy.len]; omega)]
  show _ < x.keep ∧ (_ → Near x.keep _ _ _)
  obtain ⟨h1, h2⟩ := h i hi
  by_cases e : i = chooseN x p.src p.dst p.port
  · rw [if_pos e, if_pos e, if_pos e]
    exact ⟨hx.k1, fun _ => near_comes hn hx.k4 ho _ _⟩
  · rw [if_neg e, if_neg e, if_neg e]
    exact ⟨h1, fun h3 => near_fall (h2 (by rw [(fall_rest _ _).2.2.2] at h3; exact h3)) _⟩
/-- a frame is lost -/
theorem both_lost {x : Snd} (hx : x.ok) {y : Rcv} {lost : List Nat} (hl : lost.length = 8) (h : Both x y lost) (p : Pk) (hlo : lost.getD (chooseN x p.src p.dst p.port) 0 + 1 < x.keep) :
    Both (sendM x p) y (lost.set (chooseN x p.src p.dst p.port) (lost.getD (chooseN x p.src p.dst p.port) 0 + 1)) := by
  have hn := met_near hx h p
  have hc8 := chooseN_lt hx p.src p.dst p.port
  intro i hi
  rw [getD_set _ _ _ _ (by omega), send_at hx p i hi]
  show _ < x.keep ∧ (_ → Near x.keep _ _ _)
  obtain ⟨h1, h2⟩ := h i hi
  by_cases e : i = chooseN x p.src p.dst p.port
  · rw [if_pos e, if_pos e, e]
    exact ⟨hlo, fun _ => near_lost hn hx.k4 hlo _ _⟩
  · rw [if_neg e, if_neg e]
    exact ⟨h1, fun h3 => near_fall (h2 (by rw [(fall_rest _ _).2.2.2] at h3; exact h3)) _⟩
theorem hear_cases (x : Snd) (l : List UInt8) : hearM x l = x ∨ ∃ i, i < 8 ∧ 0 < (x.at_ i).kept ∧ (hearM x l = x.set i { x.at_ i with whole := x.keep } ∨ hearM x l = x.set i { x.at_ i with full := x.keep }) := by
  by_cases hl : l.length = 2
  · obtain ⟨_, h2⟩ := hear_two (m := x) hl
    rw [h2]
    split
    · rename_i hc
      split
      · exact Or.inr ⟨_, hc.1, hc.2, Or.inl rfl⟩
      · split
        · exact Or.inr ⟨_, hc.1, hc.2, Or.inr rfl⟩
        · exact Or.inl rfl
    · exact Or.inl rfl
  · exact Or.inl (hear_len hl).2
theorem hear_keeps (x : Snd) (l : List UInt8) : (hearM x l).cids = x.cids ∧ (hearM x l).keep = x.keep ∧ (hearM x l).refresh = x.refresh := by
  rcases hear_cases x l with e | ⟨i, _, _, e | e⟩ <;> rw [e] <;> exact ⟨rfl, rfl, rfl⟩
theorem hear_ok {x : Snd} (hx : x.ok) (l : List UInt8) : (hearM x l).ok := by
  have h4 := hx.k4
  rcases hear_cases x l with e | ⟨i, hi, _, e | e⟩ <;> rw [e]
  · exact hx
  · have o := Snd.at_ok hx i
    exact Snd.set_ok hx i ⟨o.src, o.dst, o.port, o.turn, o.count, o.rank, h4, o.full, o.age, o.s0, o.s1, o.s2, o.s3, o.kept⟩
  · have o := Snd.at_ok hx i
    exact Snd.set_ok hx i ⟨o.src, o.dst, o.port, o.turn, o.count, o.rank, o.whole, h4, o.age, o.s0, o.s1, o.s2, o.s3, o.kept⟩
theorem young_hear {x : Snd} (hx : x.ok) (h : Young x) (l : List UInt8) : Young (hearM x l) := by
  rcases hear_cases x l with e | ⟨i, hi, _, e | e⟩ <;> rw [e]
  · exact h
  all_goals
    intro j hj
    rw [Snd.set_at _ _ _ _ (by rw [hx.len]; omega)]
    split
    · exact h i hi
    · exact h j hj
theorem both_hear {x : Snd} (hx : x.ok) {y : Rcv} {lost : List Nat} (h : Both x y lost) (l : List UInt8) : Both (hearM x l) y lost := by
  rcases hear_cases x l with e | ⟨i, hi, hk, e | e⟩ <;> rw [e]
  · exact h
  all_goals
    intro j hj
    obtain ⟨h1, h2⟩ := h j hj
    rw [Snd.set_at _ _ _ _ (by rw [hx.len]; omega)]
    refine ⟨h1, ?_⟩
    by_cases e : j = i
    · subst e
      rw [if_pos rfl]
      intro _
      first | exact near_whole (h2 hk) | exact near_full (h2 hk)
    · rw [if_neg e]
      exact h2

/-- a receiver stays well formed -/
theorem take_ok {y : Rcv} (hy : y.ok) (l : List UInt8) : (takeM y l).ok := by
  unfold takeM
  split
  · exact hy
  · rename_i f hf
    have o := (readF_ok hf).1
    have a := Rcv.at_ok hy f.cid
    split
    · exact hy
    · split
      · exact Rcv.set_ok hy _ (followN_ok a o)
      · split
        · exact hy
        · exact Rcv.set_ok hy _ ⟨a.src, a.dst, a.port, a.turn, a.st, Nat.mod_lt _ (by decide)⟩
theorem take_cids (y : Rcv) (l : List UInt8) : (takeM y l).cids = y.cids := by
  unfold takeM
  split
  · rfl
  · split
    · rfl
    · split
      · rfl
      · split <;> rfl
/-- a frame of a packet turns its own context alone -/
theorem take_other {y : Rcv} (hy : y.ok) {x : Snd} (hx : x.ok) {p : Pk} (hp : p.ok) (hb : p.body.length ≤ 100) {i : Nat} (hi : i ≠ chooseN x p.src p.dst p.port) : (takeM y (sendF x p)).at_ i = y.at_ i := by
  have hmo := met_ok hx hp
  have hc8 := chooseN_lt hx p.src p.dst p.port
  have hr := read_frame (k := sendK x p) (t := (metN x p).turn) (c := chooseN x p.src p.dst p.port) (n := nextN x p) (p := p) (s := strideN (metN x p) p) (kindN_le _ _ _) hmo.turn hc8 hp (strideN_lt hmo p) rfl hb
  unfold takeM
  unfold sendF
  rw [hr]
  simp only
  have ec : (partsF (sendK x p) (metN x p).turn (chooseN x p.src p.dst p.port) (nextN x p) p).cid = chooseN x p.src p.dst p.port := rfl
  rw [ec]
  split
  · rfl
  · split
    · rw [Rcv.set_at _ _ _ _ (by rw [hy.len]; omega), if_neg hi]
    · split
      · rfl
      · rw [Rcv.set_at _ _ _ _ (by rw [hy.len]; omega), if_neg hi]

/-- fresh ends -/
theorem both_fresh (c k r : Nat) (hk : 1 ≤ k) (y : Rcv) : Both (freshN c k r) y (List.replicate 8 0) := by
  intro i hi
  rw [fresh_at]
  refine ⟨?_, fun h => by simp [Cx.blank] at h⟩
  simp only [List.getD_eq_getElem?_getD, List.getElem?_replicate, if_pos hi]
  exact hk
/-- the context of a packet lies within the configuration -/
theorem choose_cids {x : Snd} (hx : x.ok) {k : Nat} (hf : Fit x k) (p : Pk) : chooseN x p.src p.dst p.port < x.cids := by
  have := hf.le
  rcases fit_send hx hf p with ⟨i, hi, e, _⟩ | ⟨hi, e, _⟩ | ⟨_, i, hi, e, _⟩ <;> omega
theorem fit_some {x : Snd} (hx : x.ok) {k : Nat} (hf : Fit x k) (p : Pk) : ∃ k', Fit (sendM x p) k' := by
  rcases fit_send hx hf p with ⟨i, hi, e, _, h⟩ | ⟨hi, e, _, h⟩ | ⟨_, i, hi, e, _, _, h⟩
  · exact ⟨_, h⟩
  · exact ⟨_, h⟩
  · exact ⟨_, h⟩

end Go.Proofs.Ytgpojbgjfibblaa.texts

namespace Go.Proofs.Ytgpojbgjfibblaa.texts
open Go.RowKit
set_option linter.unusedVariables false

/-- how many frames were sent on each context since a whole one -/
def Aged (x : Snd) (since : List Nat) : Prop := ∀ i, i < 8 → 0 < (x.at_ i).kept → since.getD i 0 = (x.at_ i).age ∧ (x.at_ i).age < x.refresh
/-- a frame that is not whole goes on a flow that has begun -/
theorem met_old {x : Snd} (hx : x.ok) {p : Pk} (hk : sendK x p ≠ 3) : metN x p = x.at_ (chooseN x p.src p.dst p.port) ∧ 0 < (x.at_ (chooseN x p.src p.dst p.port)).kept ∧ (metN x p).age + 1 < x.refresh ∧ (metN x p).whole = 0 := by
  have h1 := hx.k1
  have hw : ¬ (0 < (metN x p).whole ∨ x.refresh ≤ (metN x p).age + 1) := by
    intro h
    apply hk
    unfold sendK kindN
    rw [if_pos h]
  have e : metN x p = x.at_ (chooseN x p.src p.dst p.port) ∧ 0 < (x.at_ (chooseN x p.src p.dst p.port)).kept := by
    by_cases hh : (x.at_ (chooseN x p.src p.dst p.port)).hasB p.src p.dst p.port = true
    · refine ⟨by unfold metN; simp only; rw [if_pos hh], ?_⟩
      simp [Cx.hasB] at hh
      exact hh.1
    · exfalso
      apply hw
      left
      have e : metN x p = beginN (x.at_ (chooseN x p.src p.dst p.port)) p.src p.dst p.port x.keep := by unfold metN; simp only; rw [if_neg hh]
      rw [e]
      simp only [beginN]
      omega
  exact ⟨e.1, e.2, by omega, by omega⟩
theorem fall_more (r : Nat) (c : Cx) : (fallC r c).age = c.age ∧ (fallC r c).turn = c.turn ∧ (fallC r c).s0 = c.s0 ∧ (fallC r c).whole = c.whole ∧ (fallC r c).full = c.full ∧ (fallC r c).count = c.count ∧ (fallC r c).sts = c.sts := by
  unfold fallC; split <;> exact ⟨rfl, rfl, rfl, rfl, rfl, rfl, rfl⟩
theorem aged_send {x : Snd} (hx : x.ok) {since : List Nat} (hl : since.length = 8) (h : Aged x since) (p : Pk) :
    Aged (sendM x p) (since.set (chooseN x p.src p.dst p.port) (if sendK x p = 3 then 0 else since.getD (chooseN x p.src p.dst p.port) 0 + 1)) ∧
    (if sendK x p = 3 then 0 else since.getD (chooseN x p.src p.dst p.port) 0 + 1) < x.refresh := by
  have hc8 := chooseN_lt hx p.src p.dst p.port
  have h2 := hx.r2
  have key : sendK x p ≠ 3 → since.getD (chooseN x p.src p.dst p.port) 0 = (metN x p).age ∧ (metN x p).age + 1 < x.refresh := fun hk => by
    obtain ⟨e1, e2, e3, _⟩ := met_old hx hk
    refine ⟨?_, e3⟩
    rw [e1]
    exact (h _ hc8 e2).1
  refine ⟨?_, ?_⟩
  · intro i hi
    rw [getD_set _ _ _ _ (by omega), send_at hx p i hi]
    show _ → _ ∧ _ < x.refresh
    by_cases e : i = chooseN x p.src p.dst p.port
    · rw [if_pos e, if_pos e]
      intro _
      simp only [sentN, addN]
      by_cases hk : sendK x p = 3
      · rw [if_pos hk, if_pos hk]; exact ⟨rfl, by omega⟩
      · obtain ⟨k1, k2⟩ := key hk
        rw [if_neg hk, if_neg hk, k1]; exact ⟨rfl, k2⟩
    · rw [if_neg e, if_neg e, (fall_rest _ _).2.2.2, (fall_more _ _).1]
      exact h i hi
  · by_cases hk : sendK x p = 3
    · rw [if_pos hk]; omega
    · obtain ⟨k1, k2⟩ := key hk
      rw [if_neg hk, k1]; exact k2
theorem aged_hear {x : Snd} (hx : x.ok) {since : List Nat} (h : Aged x since) (l : List UInt8) : Aged (hearM x l) since := by
  rcases hear_cases x l with e | ⟨i, hi, hk, e | e⟩ <;> rw [e]
  · exact h
  all_goals
    intro j hj
    rw [Snd.set_at _ _ _ _ (by rw [hx.len]; omega)]
    show _ → _ ∧ _ < x.refresh
    split
    · rename_i e; subst e; intro _; exact h _ hi hk
    · exact h j hj
theorem aged_fresh (c k r : Nat) (since : List Nat) : Aged (freshN c k r) since := by
  intro i hi h
  rw [fresh_at] at h
  simp [Cx.blank] at h

/-- a line whose ends are well formed -/
structure Lin (m : Ln) (x : Snd) (y : Rcv) : Prop where
  mo : m.ok
  xo : x.ok
  yo : y.ok
  xc : x.cids = m.cids
  xk : x.keep = m.keep
  xr : x.refresh = m.refresh
  yc : y.cids = m.cids
  fit : ∃ k, Fit x k
  young : Young x
  aged : Aged x m.since
  since : ∀ i, m.since.getD i 0 < 100
theorem Lin.packet {m : Ln} {x : Snd} {y : Rcv} (h : Lin m x y) (i : Nat) {p : Pk} (hp : p.ok) : Lin (m.setLast i p) x y :=
  ⟨Ln.setLast_ok h.mo i hp, h.xo, h.yo, h.xc, h.xk, h.xr, h.yc, h.fit, h.young, h.aged, h.since⟩
theorem Lin.choose {m : Ln} {x : Snd} {y : Rcv} (h : Lin m x y) (p : Pk) : chooseN x p.src p.dst p.port < m.cids := by
  obtain ⟨k, hf⟩ := h.fit
  rw [← h.xc]
  exact choose_cids h.xo hf p
theorem Lin.send {m : Ln} {x : Snd} {y : Rcv} (h : Lin m x y) {p : Pk} (hp : p.ok) : Lin (m.setSince (chooseN x p.src p.dst p.port) (if sendK x p = 3 then 0 else m.since.getD (chooseN x p.src p.dst p.port) 0 + 1)) (sendM x p) y := by
  obtain ⟨k, hf⟩ := h.fit
  have hc8 := chooseN_lt h.xo p.src p.dst p.port
  obtain ⟨a1, a2⟩ := aged_send h.xo h.mo.since h.aged p
  have hr := h.xo.r100
  refine ⟨Ln.setSince_ok h.mo _ _, send_ok h.xo h.young hp, h.yo, h.xc, h.xk, h.xr, h.yc, fit_some h.xo hf p, young_send h.xo h.young p, a1, fun i => ?_⟩
  show (m.since.set _ _).getD i 0 < 100
  rw [getD_set _ _ _ _ (by rw [h.mo.since]; omega)]
  have h1 := h.since i
  split
  · omega
  · omega
theorem Lin.take {m : Ln} {x : Snd} {y : Rcv} (h : Lin m x y) (l : List UInt8) : Lin m x (takeM y l) :=
  ⟨h.mo, h.xo, take_ok h.yo l, h.xc, h.xk, h.xr, (take_cids y l).trans h.yc, h.fit, h.young, h.aged, h.since⟩
theorem Lin.hear {m : Ln} {x : Snd} {y : Rcv} (h : Lin m x y) (l : List UInt8) : Lin m (hearM x l) y := by
  obtain ⟨k, hf⟩ := h.fit
  obtain ⟨e1, e2, e3⟩ := hear_keeps x l
  exact ⟨h.mo, hear_ok h.xo l, h.yo, e1.trans h.xc, e2.trans h.xk, e3.trans h.xr, h.yc, ⟨k, fit_hear h.xo hf l⟩, young_hear h.xo h.young l, aged_hear h.xo h.aged l, h.since⟩
theorem Lin.lost {m : Ln} {x : Snd} {y : Rcv} (h : Lin m x y) (i v : Nat) : Lin (m.setLost i v) x y :=
  ⟨Ln.setLost_ok h.mo i v, h.xo, h.yo, h.xc, h.xk, h.xr, h.yc, h.fit, h.young, h.aged, h.since⟩
theorem Lin.cnt {m : Ln} {x : Snd} {y : Rcv} (h : Lin m x y) : ∀ c ∈ x.cs, c.age + 1 < 4611686018427387904 := young_mem h.xo h.young

end Go.Proofs.Ytgpojbgjfibblaa.texts
