/-
  The walks of the program's sender (package sender): fallBack, oldest, choose.
  Conditions stand in each theorem.
-/
import Derived.Test.YtgpojbgjfibblabGreatPart12
import Derived.Test.YtgpojbgjfibblabGreatFrameWalk
namespace Go.Proofs.YtgpojbgjfibblabGreat.texts
open Go.RowKit
set_option linter.unusedVariables false
attribute [local go_sem ↓] Go.wp_at_zero Go.wp_at_succ

/-- a sender lies in a block of its own -/
def SndAt (w : World) (b : Nat) (m : Snd) : Prop := w.heap[b]? = some (.cells m.cells 82 (0, 0))

/-- only the blocks of S, or new ones, have turned -/
structure Only (S : Nat → Prop) (w w' : World) : Prop where
  os : w'.os = w.os
  tape : w'.tape = w.tape
  output : w'.output = w.output
  size : w.heap.size ≤ w'.heap.size
  block : ∀ k, k < w.heap.size → ¬ S k → w'.heap[k]? = w.heap[k]?
theorem Only.refl (S : Nat → Prop) (w : World) : Only S w w := ⟨rfl, rfl, rfl, Nat.le_refl _, fun _ _ _ => rfl⟩
theorem Only.trans {S : Nat → Prop} {a b c : World} (h : Only S a b) (k : Only S b c) : Only S a c :=
  ⟨k.os.trans h.os, k.tape.trans h.tape, k.output.trans h.output, Nat.le_trans h.size k.size, fun i hi hs => (k.block i (Nat.lt_of_lt_of_le hi h.size) hs).trans (h.block i hi hs)⟩
theorem Only.of_below {S : Nat → Prop} {w w' : World} (h : Below w.heap.size w w') : Only S w w' := ⟨h.os, h.tape, h.output, h.size, fun k hk _ => h.block k hk⟩
theorem Only.mono {S T : Nat → Prop} {w w' : World} (h : Only S w w') (hs : ∀ k, S k → T k) : Only T w w' := ⟨h.os, h.tape, h.output, h.size, fun k hk ht => h.block k hk (fun e => ht (hs k e))⟩
theorem Only.drew {S : Nat → Prop} {a w : World} (h : Only S a w) : Only S a w.drew := ⟨h.os, h.tape, h.output, h.size, h.block⟩
theorem Only.setCell {S : Nat → Prop} {a w : World} (h : Only S a w) {p : Addr} (hp : S p.block) (u : Value) : Only S a (w.setCell p u) :=
  h.trans ⟨rfl, rfl, rfl, by simp [World.setCell], fun k hk hs => Below.heap_setCell _ _ _ _ (fun e => hs (e ▸ hp))⟩
theorem Only.setRow {S : Nat → Prop} {a w : World} (h : Only S a w) {g : Nat} (hg : S g) (C : Array Value) : Only S a (w.setRow g C) :=
  h.trans ⟨rfl, rfl, rfl, by simp, fun k hk hs => setRow_other _ _ _ _ (fun e => hs (e ▸ hg))⟩
theorem Only.keep {S : Nat → Prop} {w w' : World} (h : Only S w w') {k : Nat} {o : Obj} (ho : w.heap[k]? = some o) (hs : ¬ S k) : w'.heap[k]? = some o := by
  rw [h.block k (block_lt ho) hs]; exact ho

/-- the cells of a sender, as the walk reckons them -/
theorem SndAt.cell {w : World} {b : Nat} {m : Snd} (h : SndAt w b m) (i j : Nat) (hi : i < m.cs.length) (hj : j < 30) : w.cell? ⟨b, 3 + i * 30 + j, none⟩ = (m.at_ i).cells[j]? := by
  rw [block_cell h, Nat.mul_comm i 30]
  exact Snd.get m i j hi hj
theorem SndAt.free {w : World} {b : Nat} {m : Snd} (h : SndAt w b m) (i : Nat) : w.frozen? ⟨b, i, none⟩ = false := block_free h i

/-- the first k contexts have fallen back -/
def fallK (m : Snd) (r k : Nat) : Snd := { m with cs := (m.cs.take k).map (fallC r) ++ m.cs.drop k }

theorem fallK_zero (m : Snd) (r : Nat) : fallK m r 0 = m := by simp [fallK]
theorem fallK_all (m : Snd) (r : Nat) (k : Nat) (h : m.cs.length ≤ k) : fallK m r k = fallN m r := by
  simp [fallK, fallN, List.take_of_length_le h, List.drop_eq_nil_of_le h]
theorem fallK_len (m : Snd) (r k : Nat) : (fallK m r k).cs.length = m.cs.length := by
  simp only [fallK, List.length_append, List.length_map, List.length_take, List.length_drop]
  omega
theorem fallK_at (m : Snd) (r k : Nat) (h : k < m.cs.length) : (fallK m r k).at_ k = m.at_ k := by
  simp only [Snd.at_, fallK, List.getD_eq_getElem?_getD]
  rw [List.getElem?_append_right (by simp; omega)]
  simp [Nat.min_eq_left (Nat.le_of_lt h)]
theorem set_same (m : Snd) (i : Nat) (h : i < m.cs.length) : m.set i (m.at_ i) = m := by
  unfold Snd.set Snd.at_
  have : m.cs.set i (m.cs.getD i Cx.blank) = m.cs := by
    apply List.ext_getElem?
    intro k
    rw [List.getElem?_set]
    by_cases e : i = k
    · subst e; simp [h, List.getD_eq_getElem?_getD]
    · rw [if_neg e]
  rw [this]
theorem fallK_succ (m : Snd) (r k : Nat) (h : k < m.cs.length) : fallK m r (k + 1) = (fallK m r k).set k (fallC r (m.at_ k)) := by
  have e : (m.cs.take (k + 1)).map (fallC r) ++ m.cs.drop (k + 1) = ((m.cs.take k).map (fallC r) ++ m.cs.drop k).set k (fallC r (m.at_ k)) := by
    rw [List.set_append_right _ _ (by simp; omega)]
    simp only [List.length_map, List.length_take, Nat.min_eq_left (Nat.le_of_lt h), Nat.sub_self]
    have e2 : m.at_ k = m.cs[k] := by simp [Snd.at_, List.getD_eq_getElem?_getD, h]
    rw [e2, List.drop_eq_getElem_cons h, List.set_cons_zero, List.take_add_one, List.getElem?_eq_getElem h, List.map_append]
    simp only [Option.toList_some, List.map_cons, List.map_nil, List.append_assoc, List.cons_append, List.nil_append]
  simp only [fallK, Snd.set]
  rw [e]

set_option maxRecDepth 100000 in
set_option maxHeartbeats 2000000 in
theorem fallBack_any (m : Snd) (b r : Nat) (w : World) (hm : m.ok) (h : SndAt w b m) (hr : r ≤ 8) :
    Calls Tryz.prog 73 #[.pointer (some ⟨b, 0, none⟩), .int .i64 r] w fun e w' => e = .returned (.tuple #[]) ∧ SndAt w' b (fallN m r) ∧ Only (· = b) w w' := by
  have hl := hm.len
  have HM := hide hm
  have H := hide h
  clear h hm
  go_enter Tryz.func73, Tryz.ntmps73
  go_wp2_with fail
  go_loopw [4] (fun i wr => ∃ j : Nat, j ≤ 8 ∧ i = .int .i64 j ∧ SndAt wr b (fallK m r j) ∧ Only (· = b) w wr) (fun i _ => 8 - (intOf i).toNat)
  case atStart => exact ⟨0, by omega, rfl, by rw [fallK_zero]; exact unhide H, Only.refl _ _⟩
  case round =>
    obtain ⟨j, hj, rfl, hT, hO⟩ := hrel
    clear H
    by_cases hlt : j < 8
    · have i0 : (0 : Int) ≤ (j : Int) := by omega
      have i1 : (j : Int) < 8 := by omega
      have k5 : wr.cell? ⟨b, 3 + j * 30 + 5, none⟩ = some (.int .i64 (m.at_ j).rank) := by
        rw [hT.cell j 5 (by rw [fallK_len]; omega) (by omega), fallK_at _ _ _ (by omega)]; rfl
      have f5 := hT.free (3 + j * 30 + 5)
      have hrk := (Snd.at_ok (unhide HM) j).rank
      have HS := hide (fallK_succ m r j (by omega))
      have HT := hide hT
      have HO := hide hO
      clear hT hO
      by_cases hc : (m.at_ j).rank < r
      · go_wp2_with fail
        go_region
        all_goals go_wp2
        all_goals
          go_roundw
          case rel =>
            refine ⟨j + 1, by omega, by go_num, ?_, ((unhide HO).setCell rfl _).drew⟩
            rw [unhide HS, fallC, if_pos hc]
            have e := heap_setCell_same wr b (3 + j * 30 + 5) _ _ (.int .i64 (((m.at_ j).rank : Int) + 1)) (unhide HT)
            rw [Nat.mul_comm j 30, Snd.put1 (fallK m r j) j 5 { m.at_ j with rank := (m.at_ j).rank + 1 } _ (by rw [fallK_len]; omega) (by omega) (by rw [fallK_at _ _ _ (by omega)]; rfl), Nat.mul_comm 30 j] at e
            exact e
          case measure => simp [intOf]; omega
      · go_wp2
        go_roundw
        case rel => exact ⟨j + 1, by omega, by go_num, by rw [unhide HS, fallC, if_neg hc, ← fallK_at m r j (by omega), set_same _ _ (by rw [fallK_len]; omega)]; exact unhide HT, unhide HO⟩
        case measure => simp [intOf]; omega
    · have e : j = 8 := by omega
      subst e
      have HS := hide (fallK_all m r 8 (by omega))
      have HT := hide hT
      have HO := hide hO
      clear hT hO
      go_wp2
      go_end0
      refine ⟨rfl, ?_, unhide HO⟩
      rw [← unhide HS]
      exact unhide HT

set_option maxRecDepth 100000 in
set_option maxHeartbeats 2000000 in
theorem oldest_any (m : Snd) (b : Nat) (w : World) (hm : m.ok) (h : SndAt w b m) :
    Calls Tryz.prog 99 #[.pointer (some ⟨b, 0, none⟩)] w fun e w' => e = .returned (.int .i64 (oldN m m.cids : Nat)) ∧ Below w.heap.size w w' := by
  have hl := hm.len
  have h1 := hm.c1
  have h8 := hm.c8
  have HM := hide hm
  have H := hide h
  have hrk : ∀ i, (m.at_ i).rank ≤ 8 := fun i => (Snd.at_ok hm i).rank
  have HRK := hide hrk
  clear h hm hrk
  go_enter Tryz.func99, Tryz.ntmps99
  go_wp2_with fail
  go_loopw [3, 4] (fun o i wr => ∃ j : Nat, 1 ≤ j ∧ j ≤ m.cids ∧ i = .int .i64 j ∧ o = .int .i64 (oldN m j : Nat) ∧ SndAt wr b m ∧ Below w.heap.size w wr) (fun _ i _ => 8 - (intOf i).toNat)
  case atStart => exact ⟨1, by omega, by omega, rfl, by simp [oldN], unhide H, Below.refl _ _⟩
  case round =>
    obtain ⟨j, hj1, hj, rfl, rfl, hT, hB⟩ := hrel
    clear H
    have c0 : wr.cell? ⟨b, 0, none⟩ = some (.int .i64 m.cids) := (block_cell hT 0).trans (Snd.get0 m 0 (by omega))
    by_cases hlt : j < m.cids
    · have i0 : (0 : Int) ≤ (j : Int) := by omega
      have i1 : (j : Int) < 8 := by omega
      have ho := oldN_le m j
      have o0 : (0 : Int) ≤ (oldN m j : Int) := by omega
      have o1 : (oldN m j : Int) < 8 := by omega
      have k5 : wr.cell? ⟨b, 3 + j * 30 + 5, none⟩ = some (.int .i64 (m.at_ j).rank) := by
        rw [hT.cell j 5 (by omega) (by omega)]; rfl
      have k6 : wr.cell? ⟨b, 3 + oldN m j * 30 + 5, none⟩ = some (.int .i64 (m.at_ (oldN m j)).rank) := by
        rw [hT.cell _ 5 (by omega) (by omega)]; rfl
      have hr1 := (unhide HRK) j
      have hr2 := (unhide HRK) (oldN m j)
      have HS := hide (show oldN m (j + 1) = if (m.at_ (oldN m j)).rank < (m.at_ j).rank then j else oldN m j from rfl)
      have HT := hide hT
      have HB := hide hB
      clear hT hB
      by_cases hc : (m.at_ (oldN m j)).rank < (m.at_ j).rank
      · go_wp2_with fail
        go_quiet (fail)
        all_goals go_wp2
        all_goals
          go_roundw
          case rel => exact ⟨j + 1, by omega, by omega, by go_num, by rw [unhide HS, if_pos hc], (unhide HT), below_drewN (unhide HB) _⟩
          case measure => simp [intOf]; omega
      · go_wp2_with fail
        go_quiet (fail)
        all_goals go_wp2
        all_goals
          go_roundw
          case rel => exact ⟨j + 1, by omega, by omega, by go_num, by rw [unhide HS, if_neg hc], (unhide HT), below_drewN (unhide HB) _⟩
          case measure => simp [intOf]; omega
    · have e : j = m.cids := by omega
      subst e
      have HT := hide hT
      have HB := hide hB
      clear hT hB
      go_wp2
      go_ret
      exact ⟨rfl, unhide HB⟩

/-- a context's cells in the midst of a block, as a load takes them -/
def cxOf (w : World) (g o : Nat) : Array Value := match w.heap[g]? with | some (.cells c _ _) => ((c.toList.drop o).take 30).toArray | _ => #[]
def CxIn (w : World) (g o : Nat) : Prop := ∃ c t fr, w.heap[g]? = some (.cells c t fr) ∧ o + 30 ≤ c.size
theorem load_cxOf (w : World) (g o : Nat) (h : CxIn w g o) : (Instr.loadAt 75 (.pointer (some ⟨g, o, none⟩))).run Tryz.prog w = .ok (.agg (cxOf w g o)) w := by
  obtain ⟨c, t, fr, h1, h2⟩ := h
  have := run_loadAt_mid (P := Tryz.prog) w g o 75 _ _ (World.rangeAt_of_block h1 o 30) Tryz.underlying75 rfl (by rw [infoCx]; simp; omega)
  simpa [cxOf, h1] using this
theorem SndAt.cxIn {w : World} {b : Nat} {m : Snd} (h : SndAt w b m) (i : Nat) (hi : i < m.cs.length) : CxIn w b (3 + i * 30) := ⟨_, _, _, h, by rw [Snd.cells_size]; omega⟩
theorem SndAt.cxOf {w : World} {b : Nat} {m : Snd} (h : SndAt w b m) (i : Nat) (hi : i < m.cs.length) : cxOf w b (3 + i * 30) = (m.at_ i).cells := by
  have h' : w.heap[b]? = some (.cells m.cells 82 (0, 0)) := h
  unfold texts.cxOf
  rw [h']
  simp only
  apply Array.ext_getElem?
  intro k
  rw [List.getElem?_toArray, List.getElem?_take]
  by_cases hk : k < 30
  · rw [if_pos hk, List.getElem?_drop, Array.getElem?_toList, Nat.mul_comm i 30, Snd.get m i k hi hk]
  · rw [if_neg hk, Array.getElem?_eq_none (by rw [Cx.cells_size]; omega)]

/-- the sender and a route in memory -/
structure InCh (w : World) (b : Nat) (m : Snd) (x y z : Nat) (w1 : World) : Prop where
  snd : SndAt w1 b m
  rt : w1.heap[w.heap.size]? = some (.cells #[.int .u32 x, .int .u32 y, .int .u16 z] 41 (0, 0))
  below : Below w.heap.size w w1
theorem InCh.start {w : World} {b : Nat} {m : Snd} (x y z : Nat) (h : SndAt w b m) : InCh w b m x y z (w.alloc (.cells #[.int .u32 x, .int .u32 y, .int .u16 z] 41)) :=
  ⟨block_alloc h _, heap_alloc_new w _, (Below.refl _ _).alloc (Nat.le_refl _) _⟩
theorem InCh.call {w w1 w2 : World} {b : Nat} {m : Snd} {x y z : Nat} (h : InCh w b m x y z w1) (hb : Below w1.heap.size w1 w2) : InCh w b m x y z w2 :=
  ⟨block_keep h.snd hb, block_keep h.rt hb, keep_below h.below hb (Nat.le_of_lt (block_lt h.rt))⟩
theorem InCh.drew {w w1 : World} {b : Nat} {m : Snd} {x y z : Nat} (h : InCh w b m x y z w1) : InCh w b m x y z w1.drew := ⟨h.snd, h.rt, h.below.drew⟩
theorem InCh.out {w w1 : World} {b : Nat} {m : Snd} {x y z : Nat} (h : InCh w b m x y z w1) (i : Nat) (hi : i < m.cs.length) {C : Array Value} (hC : C = (m.at_ i).cells) :
    CxIn w1 b (3 + i * 30) ∧ cxOf w1 b (3 + i * 30) = C ∧ w1.cell? ⟨w.heap.size, 0, none⟩ = some (.int .u32 x) ∧ w1.cell? ⟨w.heap.size, 1, none⟩ = some (.int .u32 y) ∧ w1.cell? ⟨w.heap.size, 2, none⟩ = some (.int .u16 z) ∧ InCh w b m x y z w1 := by
  refine ⟨h.snd.cxIn i hi, by rw [hC]; exact h.snd.cxOf i hi, ?_, ?_, ?_, h⟩
  all_goals (rw [block_cell h.rt]; rfl)

/-- the load of a context, kept whole -/
def loadCx (v : Value) : Sem Value := Instr.loadAt 75 v
theorem loadCx_eq (v : Value) : Instr.loadAt 75 v = loadCx v := rfl
theorem run_loadCx (w : World) (g o : Nat) (h : CxIn w g o) : (loadCx (.pointer (some ⟨g, o, none⟩))).run Tryz.prog w = .ok (.agg (cxOf w g o)) w := load_cxOf w g o h
attribute [local go_sem ↓] loadCx_eq
attribute [local go_sem] run_loadCx

theorem chooseN_found {m : Snd} (hm : m.ok) {x y z j : Nat} (hj : j < 8) (h1 : (m.at_ j).hasB x y z = true) (h2 : ∀ k, k < j → (m.at_ k).hasB x y z = false) : chooseN m x y z = j := by
  have hl := hm.len
  have g : ∀ k (h : k < m.cs.length), m.cs[k] = m.at_ k := fun k h => by simp [Snd.at_, List.getD_eq_getElem?_getD, h]
  have e : m.cs.findIdx (fun c => c.hasB x y z) = j := by
    rw [List.findIdx_eq (by omega)]
    refine ⟨by rw [g]; exact h1, fun k hk => by rw [g]; exact h2 k hk⟩
  unfold chooseN
  simp only [e]
  rw [if_pos hj]
theorem chooseN_none {m : Snd} (hm : m.ok) {x y z : Nat} (h2 : ∀ k, k < 8 → (m.at_ k).hasB x y z = false) : chooseN m x y z = oldN m m.cids := by
  have hl := hm.len
  have e : m.cs.findIdx (fun c => c.hasB x y z) = m.cs.length := by
    rw [List.findIdx_eq_length]
    intro c hc
    obtain ⟨k, hk, rfl⟩ := List.getElem_of_mem hc
    have := h2 k (by omega)
    simpa [Snd.at_, List.getD_eq_getElem?_getD, hk] using this
  unfold chooseN
  simp only [e]
  rw [if_neg (by omega)]

set_option maxRecDepth 100000 in
set_option maxHeartbeats 2000000 in
theorem choose_any (m : Snd) (b x y z : Nat) (w : World) (hm : m.ok) (h : SndAt w b m) :
    Calls Tryz.prog 67 #[.pointer (some ⟨b, 0, none⟩), .agg #[.int .u32 x, .int .u32 y, .int .u16 z]] w fun e w' => e = .returned (.int .i64 (chooseN m x y z : Nat)) ∧ Below w.heap.size w w' := by
  have hl := hm.len
  have HM := hide hm
  have H := hide (InCh.start x y z h)
  clear h hm
  go_enter Tryz.func67, Tryz.ntmps67
  go_wp2_with fail
  go_loopw [5] (fun i wr => ∃ j : Nat, j ≤ 8 ∧ i = .int .i64 j ∧ (∀ k, k < j → (m.at_ k).hasB x y z = false) ∧ InCh w b m x y z wr) (fun i _ => 8 - (intOf i).toNat)
  case atStart => exact ⟨0, by omega, rfl, by omega, unhide H⟩
  case round =>
    obtain ⟨j, hj, rfl, hno, hT⟩ := hrel
    clear H
    have HNO := hide hno
    have HT := hide hT
    clear hno hT
    by_cases hlt : j < 8
    · have i0 : (0 : Int) ≤ (j : Int) := by omega
      have i1 : (j : Int) < 8 := by omega
      obtain ⟨C, hC⟩ : ∃ C, C = (m.at_ j).cells := ⟨_, rfl⟩
      have HC := hide hC
      clear hC
      go_wp2_with fail
      go_region_held3 (fun w' => CxIn w' b (3 + j * 30) ∧ cxOf w' b (3 + j * 30) = C ∧ w'.cell? ⟨w.heap.size, 0, none⟩ = some (.int .u32 x) ∧ w'.cell? ⟨w.heap.size, 1, none⟩ = some (.int .u32 y) ∧ w'.cell? ⟨w.heap.size, 2, none⟩ = some (.int .u16 z) ∧ InCh w b m x y z w')
        ((first | (exact (unhide HT).drew.out j (by omega) (unhide HC)) | (exact (InCh.call (unhide HT).drew hbel).out j (by omega) (unhide HC)) | (exact (InCh.call (by go_split_ands; assumption) hbel).out j (by omega) (unhide HC))))
        ((go_at_call 68; rw [unhide HC]; refine (chas_any (m.at_ j) x y z _ (Snd.at_ok (unhide HM) j)).mono ?_; rintro e w1 ⟨rfl, hbel⟩))
      all_goals go_split_ands
      all_goals (have HT2 := hide ‹InCh w b m x y z _›)
      all_goals go_wp2
      all_goals first
        | (go_ret; exact ⟨ret_int (by rw [chooseN_found (unhide HM) hlt (by assumption) (unhide HNO)]), (unhide HT2).below⟩)
        | (refine ⟨⟨j + 1, by omega, by go_num, fun k hk => ?_, unhide HT2⟩, by simp [intOf]; omega⟩
           by_cases e : k = j
           · rw [e]; first | assumption | simpa using ‹¬ (m.at_ j).hasB x y z = true›
           · exact (unhide HNO) k (by omega))
    · have e : j = 8 := by omega
      subst e
      have HF := hide (chooseN_none (unhide HM) (unhide HNO))
      go_wp2_with (go_at_call 99; refine (oldest_any m b _ (unhide HM) (unhide HT).snd).mono ?_; rintro e w1 ⟨rfl, hb⟩; have HB := hide hb; clear hb)
      go_ret
      exact ⟨ret_int (by rw [unhide HF]), keep_below (unhide HT).below (unhide HB) (Nat.le_of_lt (block_lt (unhide HT).rt))⟩

end Go.Proofs.YtgpojbgjfibblabGreat.texts
