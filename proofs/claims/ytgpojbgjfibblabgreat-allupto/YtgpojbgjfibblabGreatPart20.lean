/-
  The states that are kept: the program's row of four, the document's list. The walk of the program's Flows (package sender). The document's sender in plain numbers, and how it stands to the program's.
  Conditions stand in each theorem.
-/
import Derived.Test.YtgpojbgjfibblabGreatJoinSndKeeps
import Derived.Test.YtgpojbgjfibblabGreatJoinRefKept
import Derived.Test.YtgpojbgjfibblabGreatRefFollow
import Derived.Test.YtgpojbgjfibblabGreatRefKind
namespace Go.Proofs.YtgpojbgjfibblabGreat.texts
open Go.RowKit
set_option linter.unusedVariables false

/-- one state more: the last keep of them -/
theorem sts_sent (c : Cx) (kind : Nat) (n : St) (keep : Nat) (hk : 1 ≤ keep) (hk4 : keep ≤ 4) (hc : c.kept ≤ keep) : (sentN c kind n keep).sts = (n :: c.sts).take keep := by
  unfold Cx.sts
  simp only [sentN, addN]
  obtain rfl | rfl | rfl | rfl : keep = 1 ∨ keep = 2 ∨ keep = 3 ∨ keep = 4 := by omega
  all_goals
    generalize c.kept = q at *
    have : q = 0 ∨ q = 1 ∨ q = 2 ∨ q = 3 ∨ q = 4 := by omega
    rcases this with rfl | rfl | rfl | rfl | rfl <;> first | omega | simp
theorem kept_sent (c : Cx) (kind : Nat) (n : St) (keep : Nat) (hk : 1 ≤ keep) (hc : c.kept ≤ keep) : (sentN c kind n keep).kept ≤ keep := by
  simp only [sentN, addN]
  split <;> omega

/-- the document's list of states l holds the program's: the last keep of it, the last one last -/
structure Same (c : Cx) (keep : Nat) (l : List St) (time : Nat) : Prop where
  sts : l.drop (l.length - keep) = c.sts.reverse
  kept : c.kept ≤ keep
  time : 0 < c.kept → time = timeN c.s0
theorem Same.last {c : Cx} {keep : Nat} {l : List St} {time : Nat} (h : Same c keep l time) (hk : 1 ≤ keep) : l.getLast? = c.sts.head? := by
  have h1 := congrArg List.getLast? h.sts
  rw [List.getLast?_reverse] at h1
  rw [← h1]
  by_cases hl : l = []
  · subst hl; simp
  · have hpos : 0 < l.length := List.length_pos_iff.2 hl
    rw [List.getLast?_drop, if_neg (by omega)]
theorem sts_head (c : Cx) (hk : c.kept ≤ 4) : c.sts.head? = if c.kept = 0 then none else some c.s0 := by
  unfold Cx.sts
  by_cases h : c.kept = 0
  · rw [if_pos h, h]; rfl
  · rw [if_neg h]
    obtain ⟨q, hq⟩ : ∃ q, c.kept = q + 1 := ⟨c.kept - 1, by omega⟩
    rw [hq]; rfl
theorem Same.stride {c : Cx} {keep : Nat} {l : List St} {time : Nat} (h : Same c keep l time) (hk : 1 ≤ keep) (hk4 : keep ≤ 4) (p : Pk) : strideV l time p = strideN c p := by
  have hkc := h.kept
  unfold strideV strideN
  rw [h.last hk, sts_head c (by omega)]
  by_cases h0 : c.kept = 0
  · rw [if_pos h0, if_pos h0]
  · rw [if_neg h0, if_neg h0]
    simp only
    rw [h.time (by omega)]
theorem Same.kind {c : Cx} {keep : Nat} {l : List St} {time : Nat} (h : Same c keep l time) (n : St) (refresh : Nat) : kindV c.whole c.full c.age refresh n (l.drop (l.length - keep)) = kindN c n refresh := by
  unfold kindV kindN
  rw [h.sts, most_reverse, least_most]

theorem Same.fresh (a b d keep rank turn : Nat) : Same ⟨a, b, d, turn, 0, rank, keep, 0, 0, St.zero, St.zero, St.zero, St.zero, 0⟩ keep [] 0 :=
  ⟨by simp [Cx.sts], Nat.zero_le _, fun h => by simp at h⟩
/-- a packet more on both sides -/
theorem Same.sent {c : Cx} {keep : Nat} {l : List St} {time : Nat} (h : Same c keep l time) (hk : 1 ≤ keep) (hk4 : keep ≤ 4) (kind : Nat) (n : St) : Same (sentN c kind n keep) keep (l.drop (l.length - keep) ++ [n]) (timeN n) := by
  refine ⟨?_, kept_sent c kind n keep hk h.kept, fun _ => rfl⟩
  have hlen : c.sts.length ≤ keep := by
    have : c.sts.length ≤ c.kept := List.length_take_le _ _
    have := h.kept
    omega
  rw [sts_sent c kind n keep hk hk4 h.kept, h.sts]
  have e : (n :: c.sts).take keep = (n :: c.sts).take keep := rfl
  have e2 : c.sts.reverse ++ [n] = (n :: c.sts).reverse := by simp
  rw [e2, List.length_reverse, ← List.reverse_take]

end Go.Proofs.YtgpojbgjfibblabGreat.texts

namespace Go.Proofs.YtgpojbgjfibblabGreat.texts
open Go.RowKit
set_option linter.unusedVariables false
attribute [local go_sem ↓] Go.wp_at_zero Go.wp_at_succ
attribute [local go_sem ↓] loadCx_eq
attribute [local go_sem] run_loadCx

/-- what is told of the first j contexts, and of how many -/
def flowsK (m : Snd) : Nat → List Value
  | 0 => []
  | j + 1 => flowsK m j ++ (if 0 < (m.at_ j).kept then (flowV j (m.at_ j)).toList else [])
def countK (m : Snd) : Nat → Nat
  | 0 => 0
  | j + 1 => countK m j + (if 0 < (m.at_ j).kept then 1 else 0)
theorem countK_le (m : Snd) (j : Nat) : countK m j ≤ j := by
  induction j with
  | zero => exact Nat.le_refl 0
  | succ j ih => unfold countK; split <;> omega

theorem infoFl : (Tryz.prog.info? 69).map (fun i => (i.zero, i.size, i.bytes)) = some (some (.agg #[.int .u8 0, .int .u8 0, .int .u32 0, .int .u32 0, .int .u16 0, .int .u16 0, .int .i64 0]), 7, 32) := by kernel_rfl
theorem flowV_one (i : Nat) (c : Cx) : ∀ u ∈ (flowV i c).toList, u.oneCell' = true := by
  intro u hu
  simp only [flowV, List.mem_cons, List.not_mem_nil, or_false] at hu
  rcases hu with h | h | h | h | h | h | h <;> (subst h; rfl)

set_option maxRecDepth 100000 in
set_option maxHeartbeats 2000000 in
theorem flows_any (m : Snd) (b : Nat) (w : World) (hm : m.ok) (h : SndAt w b m) :
    Calls Tryz.prog 51 #[.pointer (some ⟨b, 0, none⟩)] w fun e w' => ∃ v, e = .returned v ∧ w'.ownsRow w.heap.size 69 7 v (countK m 8) (flowsK m 8) ∧ Below w.heap.size w w' := by
  have hl := hm.len
  have H := hide h
  have hbw : b < w.heap.size := block_lt h
  obtain ⟨i0, hi, hz0, hz1, hz2⟩ := info_parts infoFl
  clear h hm
  go_enter Tryz.func51, Tryz.ntmps51
  go_wp2_with fail
  go_loopw [3, 4] (fun v i wr => ∃ j : Nat, j ≤ 8 ∧ i = .int .i64 j ∧ wr.ownsRow w.heap.size 69 7 v (countK m j) (flowsK m j) ∧ SndAt wr b m ∧ Below w.heap.size w wr ∧ w.heap.size ≤ wr.heap.size) (fun _ i _ => 8 - (intOf i).toNat)
  case atStart => exact ⟨0, by omega, rfl, World.ownsRow_nil _ _ _ _, unhide H, Below.refl _ _, Nat.le_refl _⟩
  case round =>
    obtain ⟨j, hj, rfl, hown, hT, hB, hz⟩ := hrel
    clear H
    by_cases hlt : j < 8
    · have j0 : (0 : Int) ≤ (j : Int) := by omega
      have j1 : (j : Int) < 8 := by omega
      have k29 : wr.cell? ⟨b, 3 + j * 30 + 29, none⟩ = some (.int .i64 (m.at_ j).kept) := by rw [hT.cell j 29 (by omega) (by omega)]; rfl
      have hcl := countK_le m j
      have HOW := hide hown
      have HT := hide hT
      have HB := hide hB
      have hbl := block_lt hT
      clear hown hT hB
      by_cases hk : 0 < (m.at_ j).kept
      · have e1 : flowsK m (j + 1) = flowsK m j ++ (flowV j (m.at_ j)).toList := by simp [flowsK, hk]
        have e2 : countK m (j + 1) = countK m j + 1 := by simp [countK, hk]
        have E1 := hide e1
        have E2 := hide e2
        clear e1 e2
        obtain ⟨C, hC⟩ : ∃ C, C = (m.at_ j).cells := ⟨_, rfl⟩
        have x1 := (unhide HT).cxIn j (by omega)
        have x2 : cxOf wr b (3 + j * 30) = C := by rw [hC]; exact (unhide HT).cxOf j (by omega)
        have HC := hide hC
        clear hC
        go_wp2_with (go_at_call 85; refine Stop.out ?_)
        refine ⟨?_⟩
        rw [unhide HC]
        refine (cflow_any (m.at_ j) j _ hlt).mono ?_
        rintro e w2 ⟨rfl, hb2⟩
        have hown := own_keep (unhide HOW) hb2
        have HB2 := hide (keep_below (unhide HB) hb2 hz)
        have HT2 := hide (block_keep (unhide HT) hb2)
        have hz2' : w.heap.size ≤ w2.heap.size := Nat.le_trans hz hb2.size
        clear hb2 HOW HB HT
        clear x1 x2
        generalize m.at_ j = c at *
        unfold flowV
        go_wp2_with (at_builtin; refine wpList_append_own _ rfl _ _ 70 rfl w.heap.size 69 i0 _ 7 32 Tryz.underlying70 hi hz0 hz1 hz2 rfl (by decide) _ _ _ rfl (hown.alloc _) ⟨w2.heap.size, 0, none⟩ 1 1 (flowV j c).toList rfl rfl ?c1 (flowV_one j c) ?c3 ?c4 ?c5 ?_)
        case c1 =>
          intro i u hu
          have hi7 : i < 7 := by
            have := (List.getElem?_eq_some_iff.1 hu).1
            simpa [flowV] using this
          rw [Addr.add_mid, Nat.zero_add, block_cell (heap_alloc_new w2 _)]
          have : (flowV j c)[i]? = some u := by simpa using hu
          exact this
        case c3 => unfold maxLen; omega
        case c4 => omega
        case c5 => simp; omega
        intro v' w3 hown3 hgrow3 _
        have R2 : Below w.heap.size w w3 := ((unhide HB2).alloc hz2' _).grown hgrow3 (by simp; omega) (fun k hk => (hown.lt k hk).1)
        have R3 : SndAt w3 b m := by
          have hb4 : w3.heap[b]? = _ := hgrow3.block b (by have := block_lt (unhide HT2); simp; omega) (fun e => by have h1 := (hown.lt b e.symm).1; have h2 := hbw; omega)
          rw [SndAt, hb4]
          exact block_alloc (unhide HT2) _
        have R4 : w.heap.size ≤ w3.heap.size := R2.size
        have H1 := hide hown3
        have H2 := hide R2
        have H3 := hide R3
        clear hown hown3 hgrow3 HB2 R2 R3 HT2
        go_wp2
        go_roundw
        case rel => exact ⟨j + 1, by omega, by go_num, by rw [unhide E1, unhide E2]; exact unhide H1, unhide H3, unhide H2, R4⟩
        case measure => simp [intOf]; omega
      · have e1 : flowsK m (j + 1) = flowsK m j := by simp [flowsK, hk]
        have e2 : countK m (j + 1) = countK m j := by simp [countK, hk]
        have E1 := hide e1
        have E2 := hide e2
        clear e1 e2
        have hk0 : (m.at_ j).kept = 0 := by omega
        rw [hk0] at k29
        go_wp2
        go_roundw
        case rel => exact ⟨j + 1, by omega, by go_num, by rw [unhide E1, unhide E2]; exact unhide HOW, unhide HT, unhide HB, hz⟩
        case measure => simp [intOf]; omega
    · have e : j = 8 := by omega
      subst e
      have HOW := hide hown
      have HB := hide hB
      clear hown hT hB
      go_wp2
      go_ret
      exact ⟨_, rfl, unhide HOW, unhide HB⟩

set_option maxRecDepth 100000 in
set_option maxHeartbeats 1000000 in
theorem gflows_any (m : Snd) (b : Nat) (w : World) (hm : m.ok) (h : SndAt w b m) :
    Calls Tryz.prog 26 #[.pointer (some ⟨b, 0, none⟩)] w fun e w' => ∃ v, e = .returned v ∧ w'.ownsRow w.heap.size 69 7 v (countK m 8) (flowsK m 8) ∧ Below w.heap.size w w' := by
  have HM := hide hm
  have H := hide h
  clear hm h
  go_enter Tryz.func26, Tryz.ntmps26
  go_wp2_with (go_at_call 51; refine (flows_any m b _ (unhide HM) (unhide H)).mono ?_; rintro e w1 ⟨v, rfl, h1, h2⟩; have HO := hide h1; have HB := hide h2; clear h1 h2)
  go_ret
  exact ⟨_, rfl, unhide HO, unhide HB⟩

end Go.Proofs.YtgpojbgjfibblabGreat.texts

namespace Go.Proofs.YtgpojbgjfibblabGreat.texts
open Go.RowKit
set_option linter.unusedVariables false

/-- a context of the document's; sv: where its states lie -/
structure Rc where
  has : Bool
  src : Nat
  dst : Nat
  port : Nat
  turn : Nat
  sv : Value
  sts : List St
  time : Nat
  whole : Nat
  full : Nat
  age : Nat
  last : Nat
  sent : Nat
  missed : Nat
def Rc.cells (x : Rc) : Array Value := #[.bool x.has, .int .u32 x.src, .int .u32 x.dst, .int .u16 x.port, .int .i64 x.turn, x.sv, .int .i64 x.time, .int .i64 x.whole, .int .i64 x.full, .int .i64 x.age, .int .i64 x.last, .int .i64 x.sent, .int .i64 x.missed]
def Rc.blank : Rc := ⟨false, 0, 0, 0, 0, .slice none 0 0, [], 0, 0, 0, 0, 0, 0, 0⟩
structure Doc where
  cids : Nat
  keep : Nat
  refresh : Nat
  cs : List Rc
  sent : Nat
def Doc.at_ (d : Doc) (i : Nat) : Rc := d.cs.getD i Rc.blank
def Doc.set (d : Doc) (i : Nat) (x : Rc) : Doc := { d with cs := d.cs.set i x }
theorem Doc.set_at (d : Doc) (i j : Nat) (x : Rc) (hi : i < d.cs.length) : (d.set i x).at_ j = if j = i then x else d.at_ j := by
  unfold Doc.at_ Doc.set
  simp only [List.getD_eq_getElem?_getD, List.getElem?_set]
  by_cases h : j = i
  · subst h; simp [hi]
  · rw [if_neg h, if_neg (fun e => h e.symm)]
def Rc.isR (x : Rc) (a b c : Nat) : Prop := x.has = true ∧ x.src = a ∧ x.dst = b ∧ x.port = c
/-- where a packet of a route goes, by the document -/
def PlaceIs (d : Doc) (a b c i : Nat) (fresh : Bool) : Prop :=
  i < d.cs.length ∧ ((fresh = false ∧ (d.at_ i).isR a b c) ∨
    (fresh = true ∧ (∀ j, j < d.cs.length → ¬ (d.at_ j).isR a b c) ∧
      (((d.at_ i).has = false ∧ ∀ j, j < i → (d.at_ j).has = true) ∨ ((∀ j, j < d.cs.length → (d.at_ j).has = true) ∧ ∀ j, j < d.cs.length → (d.at_ i).last ≤ (d.at_ j).last))))
def docMet (d : Doc) (p : Pk) (i : Nat) (fresh : Bool) : Rc :=
  if fresh = true then ⟨true, p.src, p.dst, p.port, if (d.at_ i).has = true then ((d.at_ i).turn + 1) % 4 else 0, .slice none 0 0, [], 0, d.keep, 0, 0, 0, 0, 0⟩ else d.at_ i
def docNext (x : Rc) (p : Pk) : St := stateN p (strideV x.sts x.time p)
def docKind (x : Rc) (n : St) (keep refresh : Nat) : Nat := kindV x.whole x.full x.age refresh n (x.sts.drop (x.sts.length - keep))
def docSent (x : Rc) (v : Value) (k : Nat) (n : St) (p : Pk) (keep t : Nat) : Rc :=
  { x with sv := v, sts := x.sts.drop (x.sts.length - keep) ++ [n], time := p.time, whole := if k = 3 then x.whole - 1 else x.whole, full := if k = 2 then x.full - 1 else x.full, age := if k = 3 then 0 else x.age + 1, last := t, sent := x.sent + 1 }
def docSend (d : Doc) (p : Pk) (i : Nat) (fresh : Bool) (v : Value) : Doc :=
  { d.set i (docSent (docMet d p i fresh) v (docKind (docMet d p i fresh) (docNext (docMet d p i fresh) p) d.keep d.refresh) (docNext (docMet d p i fresh) p) p d.keep (d.sent + 1)) with sent := d.sent + 1 }

/-- a context of the program's and one of the document's -/
structure RelC (keep t : Nat) (c : Cx) (x : Rc) : Prop where
  has : x.has = true
  src : x.src = c.src
  dst : x.dst = c.dst
  port : x.port = c.port
  turn : x.turn = c.turn
  same : Same c keep x.sts x.time
  whole : x.whole = c.whole
  full : x.full = c.full
  age : x.age = c.age
  sent : c.count = (x.sent : Int)
  missed : x.missed = 0
  last : x.last ≤ t
  few : x.sent ≤ t
structure Rel (k : Nat) (m : Snd) (d : Doc) : Prop where
  cids : d.cids = m.cids
  keep : d.keep = m.keep
  refresh : d.refresh = m.refresh
  len : d.cs.length = m.cids
  blank : ∀ i, k ≤ i → i < m.cids → d.at_ i = Rc.blank
  one : ∀ i, i < k → RelC m.keep d.sent (m.at_ i) (d.at_ i)
  rank : ∀ i j, i < k → j < k → (m.at_ i).rank < (m.at_ j).rank → (d.at_ j).last < (d.at_ i).last

theorem Rel.has {k : Nat} {m : Snd} {d : Doc} (h : Rel k m d) {i : Nat} (hi : i < m.cids) : (d.at_ i).has = true ↔ i < k := by
  by_cases hk : i < k
  · exact ⟨fun _ => hk, fun _ => (h.one i hk).has⟩
  · rw [h.blank i (by omega) hi]
    simp [Rc.blank, hk]

theorem Same.fall {c : Cx} {r keep : Nat} {l : List St} {t : Nat} (h : Same c keep l t) : Same (fallC r c) keep l t := by
  unfold fallC
  split
  · exact ⟨h.sts, h.kept, h.time⟩
  · exact h
theorem RelC.fall {keep t : Nat} {c : Cx} {x : Rc} (h : RelC keep t c x) (r : Nat) : RelC keep (t + 1) (fallC r c) x := by
  have hs := h.same.fall (r := r)
  obtain ⟨a1, a2, a3, a4, a5, a6, a7, a8, a9, a10, a11, a12, a13⟩ := h
  unfold fallC at hs ⊢
  split
  · rename_i hc
    rw [if_pos hc] at hs
    exact ⟨a1, a2, a3, a4, a5, hs, a7, a8, a9, a10, a11, by omega, by omega⟩
  · exact ⟨a1, a2, a3, a4, a5, a6, a7, a8, a9, a10, a11, by omega, by omega⟩

/-- what a packet makes of a context, on both sides -/
theorem RelC.sent_ {keep t : Nat} {c : Cx} {x : Rc} (h : RelC keep t c x) (hk : 1 ≤ keep) (hk4 : keep ≤ 4) {p : Pk} (hp : p.ok) (hc : c.ok) (refresh : Nat) (v : Value) (ht : t + 1 < 9223372036854775807) :
    docNext x p = stateN p (strideN c p) ∧ docKind x (docNext x p) keep refresh = kindN c (stateN p (strideN c p)) refresh ∧
    RelC keep (t + 1) (sentN c (kindN c (stateN p (strideN c p)) refresh) (stateN p (strideN c p)) keep) (docSent x v (docKind x (docNext x p) keep refresh) (docNext x p) p keep (t + 1)) := by
  have e1 : docNext x p = stateN p (strideN c p) := by unfold docNext; rw [h.same.stride hk hk4]
  have e2 : docKind x (docNext x p) keep refresh = kindN c (stateN p (strideN c p)) refresh := by
    rw [e1]
    unfold docKind
    rw [h.whole, h.full, h.age]
    exact h.same.kind _ _
  refine ⟨e1, e2, ?_⟩
  rw [e2, e1]
  generalize kindN c (stateN p (strideN c p)) refresh = K
  have hs := h.same.sent hk hk4 K (stateN p (strideN c p))
  rw [timeN_stateN hp (strideN_lt hc p)] at hs
  refine ⟨h.has, h.src, h.dst, h.port, h.turn, hs, ?_, ?_, ?_, ?_, h.missed, Nat.le_refl _, ?_⟩
  · show (if K = 3 then x.whole - 1 else x.whole) = if K = 3 then c.whole - 1 else c.whole
    rw [h.whole]
  · show (if K = 2 then x.full - 1 else x.full) = if K = 2 then c.full - 1 else c.full
    rw [h.full]
  · show (if K = 3 then 0 else x.age + 1) = if K = 3 then 0 else c.age + 1
    rw [h.age]
  · show wrap64 (c.count + 1) = ((x.sent + 1 : Nat) : Int)
    have := h.few
    rw [h.sent]
    unfold wrap64
    omega
  · show x.sent + 1 ≤ t + 1
    have := h.few
    omega

theorem fall_less {r : Nat} {a b : Cx} (h : (fallC r a).rank < (fallC r b).rank) : a.rank < b.rank := by
  rw [fall_rank, fall_rank] at h
  split at h <;> split at h <;> omega

/-- the two sides choose alike, and go on alike -/
theorem rel_send {m : Snd} (hm : m.ok) {k : Nat} (hf : Fit m k) {d : Doc} (h : Rel k m d) {p : Pk} (hp : p.ok) {i : Nat} {fresh : Bool} (hpl : PlaceIs d p.src p.dst p.port i fresh) (v : Value) (ht : d.sent + 1 < 9223372036854775807) :
    chooseN m p.src p.dst p.port = i ∧ RelC m.keep d.sent (metN m p) (docMet d p i fresh) ∧ ∃ k', Fit (sendM m p) k' ∧ Rel k' (sendM m p) (docSend d p i fresh v) := by
  have hk8 : k ≤ 8 := Nat.le_trans hf.le hm.c8
  have hlen := h.len
  obtain ⟨hil, hcase⟩ := hpl
  have hic : i < m.cids := by omega
  have mk : ∀ X : Rc, (docSend d p i fresh v).cs = d.cs.set i (docSent (docMet d p i fresh) v (docKind (docMet d p i fresh) (docNext (docMet d p i fresh) p) d.keep d.refresh) (docNext (docMet d p i fresh) p) p d.keep (d.sent + 1)) := fun _ => rfl
  have dat : ∀ j, (docSend d p i fresh v).at_ j = if j = i then docSent (docMet d p i fresh) v (docKind (docMet d p i fresh) (docNext (docMet d p i fresh) p) d.keep d.refresh) (docNext (docMet d p i fresh) p) p d.keep (d.sent + 1) else d.at_ j := fun j => Doc.set_at d i j _ hil
  have metok : (metN m p).ok := by
    have o := Snd.at_ok hm (chooseN m p.src p.dst p.port)
    unfold metN
    simp only
    split
    · exact o
    · exact beginN_ok o hp.src hp.dst hp.port hm.k4
  -- what follows from the choice
  have fin : ∀ k', chooseN m p.src p.dst p.port = i → RelC m.keep d.sent (metN m p) (docMet d p i fresh) → Fit (sendM m p) k' → (k' = k ∧ i < k ∨ k' = k + 1 ∧ i = k) →
      Rel k' (sendM m p) (docSend d p i fresh v) := by
    intro k' hc hr hf' hk'
    have sat := send_at hm p
    rw [hc] at sat
    obtain ⟨e1, e2, e3⟩ := hr.sent_ hm.k1 hm.k4 hp metok m.refresh v ht
    have nx : nextN m p = stateN p (strideN (metN m p) p) := rfl
    have sk : sendK m p = kindN (metN m p) (nextN m p) m.refresh := rfl
    have rk0 : (sentN (metN m p) (sendK m p) (nextN m p) m.keep).rank = 0 := rfl
    refine ⟨h.cids, h.keep, h.refresh, by simp [docSend, Doc.set, hlen]; rfl, fun j hj hj2 => ?_, fun j hj => ?_, fun j l hj hl hlt => ?_⟩
    · have hj3 : j < m.cids := hj2
      rw [dat, if_neg (by omega)]
      exact h.blank j (by omega) hj3
    · have hj8 : j < 8 := by have := hf'.le; have := hm.c8; have e : (sendM m p).cids = m.cids := rfl; omega
      rw [dat, sat j hj8]
      by_cases e : j = i
      · rw [if_pos e, if_pos e, sk, nx, h.keep, h.refresh]
        exact e3
      · rw [if_neg e, if_neg e]
        exact (h.one j (by omega)).fall _
    · have hj8 : j < 8 := by have := hf'.le; have := hm.c8; have e : (sendM m p).cids = m.cids := rfl; omega
      have hl8 : l < 8 := by have := hf'.le; have := hm.c8; have e : (sendM m p).cids = m.cids := rfl; omega
      rw [sat j hj8, sat l hl8] at hlt
      rw [dat, dat]
      by_cases el : l = i
      · rw [if_pos el, rk0] at hlt; omega
      · rw [if_neg el] at hlt ⊢
        by_cases ej : j = i
        · rw [if_pos ej]
          have := (h.one l (by omega)).last
          show (d.at_ l).last < d.sent + 1
          omega
        · rw [if_neg ej] at hlt ⊢
          exact h.rank j l (by omega) (by omega) (fall_less hlt)
  have fs := fit_send hm hf p
  rcases hcase with ⟨rfl, hR⟩ | ⟨rfl, hno, hwhich⟩
  · have hik : i < k := (h.has hic).1 hR.1
    have o := h.one i hik
    have hrt : (m.at_ i).src = p.src ∧ (m.at_ i).dst = p.dst ∧ (m.at_ i).port = p.port := ⟨o.src ▸ hR.2.1, o.dst ▸ hR.2.2.1, o.port ▸ hR.2.2.2⟩
    have hc := choose_known hm hf hik hrt
    have hh : (m.at_ i).hasB p.src p.dst p.port = true := by simp [Cx.hasB, hf.has i hik, hrt]
    have em : metN m p = m.at_ i := by unfold metN; rw [hc]; simp [hh]
    have hr : RelC m.keep d.sent (metN m p) (docMet d p i false) := by rw [em]; simpa [docMet] using o
    have hf' : Fit (sendM m p) k := by
      rcases fs with ⟨i', _, _, _, f⟩ | ⟨h1, h2, _, _⟩ | ⟨_, i', _, _, _, _, f⟩
      · exact f
      · omega
      · exact f
    exact ⟨hc, hr, k, hf', fin k hc hr hf' (Or.inl ⟨rfl, hik⟩)⟩
  · have hn : ∀ j, j < k → ¬ ((m.at_ j).src = p.src ∧ (m.at_ j).dst = p.dst ∧ (m.at_ j).port = p.port) := by
      intro j hj hrt
      have o := h.one j hj
      exact hno j (by have := hf.le; omega) ⟨o.has, o.src.trans hrt.1, o.dst.trans hrt.2.1, o.port.trans hrt.2.2⟩
    obtain ⟨c1, c2⟩ := choose_new hm hf hn
    rcases hwhich with ⟨hf0, hall⟩ | ⟨hall, hmin⟩
    · have hki : ¬ i < k := fun e => by rw [(h.has hic).2 e] at hf0; cases hf0
      have hik : i = k := by
        have : ¬ k < i := fun e => by
          have := (h.has (by omega)).1 (hall k e)
          omega
        omega
      subst hik
      have hc := c1 hic
      have hb := hf.blank i (Nat.le_refl _) (by have := hm.c8; omega)
      have em : metN m p = beginN Cx.blank p.src p.dst p.port m.keep := by unfold metN; rw [hc, hb]; simp [blank_has]
      have hr : RelC m.keep d.sent (metN m p) (docMet d p i true) := by
        rw [em]
        simp only [docMet, h.blank i (Nat.le_refl _) hic, if_true, h.keep]
        exact ⟨rfl, rfl, rfl, rfl, rfl, Same.fresh _ _ _ _ _ _, rfl, rfl, rfl, rfl, rfl, Nat.zero_le _, Nat.zero_le _⟩
      have hf' : Fit (sendM m p) (i + 1) := by
        rcases fs with ⟨i', hi', e', _, f⟩ | ⟨_, _, _, f⟩ | ⟨h1, _⟩
        · omega
        · exact f
        · omega
      exact ⟨hc, hr, i + 1, hf', fin _ hc hr hf' (Or.inr ⟨rfl, rfl⟩)⟩
    · have hkc : k = m.cids := by
        have h1 := hf.le
        have : ¬ k < m.cids := fun e => by
          have := (h.has e).1 (hall k (by omega))
          omega
        omega
      obtain ⟨h1, h2⟩ := c2 hkc
      have hik : i < k := by omega
      have hc : chooseN m p.src p.dst p.port = i := by
        refine hf.inj _ _ h1 hik ?_
        have a := h2 i hik
        have b : ¬ (m.at_ i).rank < (m.at_ (chooseN m p.src p.dst p.port)).rank := fun e => by
          have := h.rank i _ hik h1 e
          have := hmin (chooseN m p.src p.dst p.port) (by omega)
          omega
        omega
      have o := h.one i hik
      have hh : (m.at_ i).hasB p.src p.dst p.port = false := by
        simp only [Cx.hasB, decide_eq_false_iff_not]
        rintro ⟨_, h3⟩
        exact hn i hik h3
      have em : metN m p = beginN (m.at_ i) p.src p.dst p.port m.keep := by unfold metN; rw [hc]; simp [hh]
      have hr : RelC m.keep d.sent (metN m p) (docMet d p i true) := by
        rw [em]
        simp only [docMet, o.has, if_true, h.keep]
        refine ⟨rfl, rfl, rfl, rfl, ?_, Same.fresh _ _ _ _ _ _, rfl, rfl, rfl, rfl, rfl, Nat.zero_le _, Nat.zero_le _⟩
        show ((d.at_ i).turn + 1) % 4 = if 0 < (m.at_ i).kept then ((m.at_ i).turn + 1) % 4 else (m.at_ i).turn
        rw [if_pos (hf.has i hik), o.turn]
      have hf' : Fit (sendM m p) k := by
        rcases fs with ⟨i', _, _, _, f⟩ | ⟨h1, h2, _, _⟩ | ⟨_, i', _, _, _, _, f⟩
        · exact f
        · omega
        · exact f
      exact ⟨hc, hr, k, hf', fin k hc hr hf' (Or.inl ⟨rfl, hik⟩)⟩

/-- the frames are the same -/
theorem rel_frame {m : Snd} (hm : m.ok) {d : Doc} {k : Nat} (h : Rel k m d) {p : Pk} (hp : p.ok) {i : Nat} {fresh : Bool} (hc : chooseN m p.src p.dst p.port = i) (hr : RelC m.keep d.sent (metN m p) (docMet d p i fresh)) (ht : d.sent + 1 < 9223372036854775807) :
    frameN (docKind (docMet d p i fresh) (docNext (docMet d p i fresh) p) d.keep d.refresh) (docMet d p i fresh).turn i (docNext (docMet d p i fresh) p) p = sendF m p := by
  have metok : (metN m p).ok := by
    have o := Snd.at_ok hm (chooseN m p.src p.dst p.port)
    unfold metN
    simp only
    split
    · exact o
    · exact beginN_ok o hp.src hp.dst hp.port hm.k4
  obtain ⟨e1, e2, _⟩ := hr.sent_ hm.k1 hm.k4 hp metok m.refresh (.slice none 0 0) ht
  rw [h.keep, h.refresh, e2, e1, hr.turn]
  unfold sendF sendK nextN
  rw [hc]

/-- Hear, by the document -/
def docHearE (d : Doc) (l : List UInt8) : Nat :=
  match l with
  | [x, y] => if y.toNat < d.cs.length ∧ (d.at_ y.toNat).has = true ∧ (x.toNat = 83 ∨ x.toNat = 68) then 0 else 7
  | _ => 7
def docHearM (d : Doc) (l : List UInt8) : Doc :=
  match l with
  | [x, y] => if y.toNat < d.cs.length ∧ (d.at_ y.toNat).has = true then
      if x.toNat = 83 then d.set y.toNat { d.at_ y.toNat with whole := d.keep } else if x.toNat = 68 then d.set y.toNat { d.at_ y.toNat with full := d.keep } else d
    else d
  | _ => d

theorem rel_put {m : Snd} (hm : m.ok) {k : Nat} {d : Doc} (h : Rel k m d) {i : Nat} (hi : i < k) (hi8 : i < m.cids) {c : Cx} {x : Rc} (hr : RelC m.keep d.sent c x) (hrk : c.rank = (m.at_ i).rank) (hl : x.last = (d.at_ i).last) : Rel k (m.set i c) (d.set i x) := by
  have ml := hm.len
  have dl := h.len
  have m8 := hm.c8
  have ma : ∀ j, (m.set i c).at_ j = if j = i then c else m.at_ j := fun j => Snd.set_at m i j c (by omega)
  have da : ∀ j, (d.set i x).at_ j = if j = i then x else d.at_ j := fun j => Doc.set_at d i j x (by omega)
  have rk : ∀ j, ((m.set i c).at_ j).rank = (m.at_ j).rank := by
    intro j
    rw [ma]
    split
    · rename_i e; rw [e, hrk]
    · rfl
  have la : ∀ j, ((d.set i x).at_ j).last = (d.at_ j).last := by
    intro j
    rw [da]
    split
    · rename_i e; rw [e, hl]
    · rfl
  refine ⟨h.cids, h.keep, h.refresh, by simp [Doc.set, dl]; rfl, fun j hj hj2 => ?_, fun j hj => ?_, fun j l hj hl' hlt => ?_⟩
  · rw [da, if_neg (by omega)]
    exact h.blank j hj hj2
  · rw [da, ma]
    split
    · exact hr
    · exact h.one j hj
  · rw [rk, rk] at hlt
    rw [la, la]
    exact h.rank j l hj hl' hlt

theorem rel_hear {m : Snd} (hm : m.ok) {k : Nat} (hf : Fit m k) {d : Doc} (h : Rel k m d) (l : List UInt8) : hearE m l = docHearE d l ∧ Rel k (hearM m l) (docHearM d l) := by
  have m8 := hm.c8
  have hle := hf.le
  have key : ∀ y : Nat, (y < 8 ∧ 0 < (m.at_ y).kept) ↔ (y < d.cs.length ∧ (d.at_ y).has = true) := by
    intro y
    rw [h.len]
    constructor
    · rintro ⟨h1, h2⟩
      have hk : y < k := by
        by_cases e : y < k
        · exact e
        · rw [hf.blank y (by omega) h1] at h2
          simp [Cx.blank] at h2
      exact ⟨by omega, (h.one y hk).has⟩
    · rintro ⟨h1, h2⟩
      have hk := (h.has h1).1 h2
      exact ⟨by omega, hf.has y hk⟩
  match l with
  | [] => exact ⟨rfl, h⟩
  | [_] => exact ⟨rfl, h⟩
  | [x, y] =>
    simp only [hearE, docHearE, hearM, docHearM]
    by_cases hc : y.toNat < 8 ∧ 0 < (m.at_ y.toNat).kept
    · have hd := (key _).1 hc
      have hk : y.toNat < k := (h.has (by rw [← h.len]; exact hd.1)).1 hd.2
      have o := h.one _ hk
      constructor
      · by_cases hx : x.toNat = 83 ∨ x.toNat = 68
        · rw [if_pos ⟨hc.1, hc.2, hx⟩, if_pos ⟨hd.1, hd.2, hx⟩]
        · rw [if_neg (fun e => hx e.2.2), if_neg (fun e => hx e.2.2)]
      · rw [if_pos hc, if_pos hd]
        split
        · refine rel_put hm h hk (by omega) ⟨o.has, o.src, o.dst, o.port, o.turn, ⟨o.same.sts, o.same.kept, o.same.time⟩, ?_, o.full, o.age, o.sent, o.missed, o.last, o.few⟩ rfl rfl
          exact h.keep
        · split
          · refine rel_put hm h hk (by omega) ⟨o.has, o.src, o.dst, o.port, o.turn, ⟨o.same.sts, o.same.kept, o.same.time⟩, o.whole, ?_, o.age, o.sent, o.missed, o.last, o.few⟩ rfl rfl
            exact h.keep
          · exact h
    · have hd : ¬ (y.toNat < d.cs.length ∧ (d.at_ y.toNat).has = true) := fun e => hc ((key _).2 e)
      rw [if_neg hc, if_neg hd, if_neg (fun e => hc ⟨e.1, e.2.1⟩), if_neg (fun e => hd ⟨e.1, e.2.1⟩)]
      exact ⟨rfl, h⟩
  | _ :: _ :: _ :: _ => exact ⟨rfl, h⟩

/-- Flows, by the document -/
def dflowV (i : Nat) (x : Rc) : Array Value := #[.int .u8 i, .int .u8 x.turn, .int .u32 x.src, .int .u32 x.dst, .int .u16 x.port, .int .u16 (x.sts.getLast?.getD St.zero).seq, .int .i64 (x.sent + x.missed : Nat)]
def dflowsK (d : Doc) : Nat → List Value
  | 0 => []
  | j + 1 => dflowsK d j ++ (if (d.at_ j).has = true ∧ (d.at_ j).sts ≠ [] then (dflowV j (d.at_ j)).toList else [])
def dcountK (d : Doc) : Nat → Nat
  | 0 => 0
  | j + 1 => dcountK d j + (if (d.at_ j).has = true ∧ (d.at_ j).sts ≠ [] then 1 else 0)

theorem rel_flows_at {m : Snd} (hm : m.ok) {k : Nat} (hf : Fit m k) {d : Doc} (h : Rel k m d) (j : Nat) (hj : j < m.cids) :
    ((d.at_ j).has = true ∧ (d.at_ j).sts ≠ [] ↔ 0 < (m.at_ j).kept) ∧ (0 < (m.at_ j).kept → dflowV j (d.at_ j) = flowV j (m.at_ j)) := by
  have m8 := hm.c8
  by_cases hk : j < k
  · have o := h.one j hk
    have hkp := hf.has j hk
    have hl := o.same.last hm.k1
    have k4 := o.same.kept
    have mk4 := hm.k4
    rw [sts_head _ (by omega), if_neg (by omega)] at hl
    have hne : (d.at_ j).sts ≠ [] := by intro e; rw [e] at hl; simp at hl
    refine ⟨⟨fun _ => hkp, fun _ => ⟨o.has, hne⟩⟩, fun _ => ?_⟩
    unfold dflowV flowV
    rw [hl, o.turn, o.src, o.dst, o.port, o.sent, o.missed]
    rfl
  · have e1 := h.blank j (by omega) hj
    have e2 := hf.blank j (by omega) (by omega)
    rw [e1, e2]
    simp [Rc.blank, Cx.blank]

theorem rel_flows_upto {m : Snd} (hm : m.ok) {k : Nat} (hf : Fit m k) {d : Doc} (h : Rel k m d) : ∀ j, j ≤ m.cids → dflowsK d j = flowsK m j ∧ dcountK d j = countK m j := by
  intro j
  induction j with
  | zero => intro _; exact ⟨rfl, rfl⟩
  | succ j ih =>
    intro hj
    obtain ⟨i1, i2⟩ := ih (by omega)
    obtain ⟨a1, a2⟩ := rel_flows_at hm hf h j (by omega)
    simp only [dflowsK, dcountK, flowsK, countK, i1, i2]
    by_cases hk : 0 < (m.at_ j).kept
    · rw [if_pos (a1.2 hk), if_pos hk, if_pos (a1.2 hk), if_pos hk, a2 hk]
      exact ⟨rfl, rfl⟩
    · rw [if_neg (fun e => hk (a1.1 e)), if_neg hk, if_neg (fun e => hk (a1.1 e)), if_neg hk]
      exact ⟨rfl, rfl⟩
theorem flows_rest {m : Snd} {k : Nat} (hf : Fit m k) : ∀ n, m.cids + n ≤ 8 → flowsK m (m.cids + n) = flowsK m m.cids ∧ countK m (m.cids + n) = countK m m.cids := by
  intro n
  induction n with
  | zero => intro _; exact ⟨rfl, rfl⟩
  | succ n ih =>
    intro hn
    obtain ⟨i1, i2⟩ := ih (by omega)
    have hle := hf.le
    have e := hf.blank (m.cids + n) (by omega) (by omega)
    rw [← Nat.add_assoc]
    simp only [flowsK, countK, i1, i2, e]
    simp [Cx.blank]
theorem rel_flows {m : Snd} (hm : m.ok) {k : Nat} (hf : Fit m k) {d : Doc} (h : Rel k m d) : dflowsK d d.cids = flowsK m 8 ∧ dcountK d d.cids = countK m 8 := by
  have m8 := hm.c8
  have a := rel_flows_upto hm hf h m.cids (Nat.le_refl _)
  have b := flows_rest hf (8 - m.cids) (by omega)
  rw [show m.cids + (8 - m.cids) = 8 by omega] at b
  rw [h.cids, b.1, b.2]
  exact a

/-- a document's sender without flows -/
def docFresh (cids keep refresh : Nat) : Doc := ⟨cids, keep, refresh, List.replicate cids Rc.blank, 0⟩
theorem docFresh_at (c k r i : Nat) : (docFresh c k r).at_ i = Rc.blank := by
  unfold docFresh Doc.at_
  simp only [List.getD_eq_getElem?_getD, List.getElem?_replicate]
  split <;> rfl
theorem rel_fresh (c k r : Nat) : Rel 0 (freshN c k r) (docFresh c k r) :=
  ⟨rfl, rfl, rfl, by simp [docFresh, freshN], fun i _ _ => docFresh_at c k r i, fun i h => by omega, fun i j h => by omega⟩

end Go.Proofs.YtgpojbgjfibblabGreat.texts
