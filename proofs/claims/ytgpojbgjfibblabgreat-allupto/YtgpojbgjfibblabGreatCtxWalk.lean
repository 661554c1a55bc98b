/-
  The walks of the program's contexts (package sender): has, begin, stride, place, flow.
  Conditions stand in each theorem.
-/
import Derived.Test.YtgpojbgjfibblabGreatStateWalk
namespace Go.Proofs.YtgpojbgjfibblabGreat.texts
open Go.RowKit
set_option linter.unusedVariables false
attribute [local go_sem ↓] Go.wp_at_zero Go.wp_at_succ

theorem ret_bool {a b : Bool} (h : a = b) : Ending.returned (.bool a) = .returned (.bool b) := by rw [h]
theorem infoCx : (Tryz.prog.info? 75).map (·.size) = some 30 := by kernel_rfl
/-- a context's cells lie there -/
def CxAt (w : World) (g o : Nat) (C : Array Value) : Prop := w.rangeAt g o C.toList ∧ C.size = 30
theorem load_cx (w : World) (g o : Nat) (C : Array Value) (h : CxAt w g o C) : (Instr.loadAt 75 (.pointer (some ⟨g, o, none⟩))).run Tryz.prog w = .ok (.agg C) w := by
  have := run_loadAt_mid (P := Tryz.prog) w g o 75 C.toList _ h.1 Tryz.underlying75 rfl (by rw [infoCx, Array.length_toList, h.2])
  simpa using this
theorem CxAt.new (w : World) (C : Array Value) (t : TypeId) (h : C.size = 30) : CxAt (w.alloc (.cells C t)) w.heap.size 0 C := by
  refine ⟨?_, h⟩
  have := World.rangeAt_of_block (heap_alloc_new w (.cells C t)) 0 30
  rw [← h] at this
  simpa using this
theorem CxAt.size {w : World} {g o : Nat} {C : Array Value} (h : CxAt w g o C) : (Tryz.prog.info? 75).map (·.size) = some C.toList.length := by rw [infoCx, Array.length_toList, h.2]
theorem CxAt.alloc {w : World} {g o : Nat} {C : Array Value} (h : CxAt w g o C) (ob : Obj) : CxAt (w.alloc ob) g o C := ⟨World.rangeAt_alloc h.1 ob, h.2⟩

set_option maxRecDepth 100000 in
set_option maxHeartbeats 2000000 in
theorem chas_any (c : Cx) (a b d : Nat) (w : World) (hc : c.ok) :
    Calls Tryz.prog 68 #[.agg c.cells, .agg #[.int .u32 a, .int .u32 b, .int .u16 d]] w fun e w' => e = .returned (.bool (c.hasB a b d)) ∧ Below w.heap.size w w' := by
  obtain ⟨C, hC⟩ : ∃ C, C = c.cells := ⟨_, rfl⟩
  have e0 : C[0]? = some (.int .u32 c.src) := by rw [hC]; rfl
  have e1 : C[1]? = some (.int .u32 c.dst) := by rw [hC]; rfl
  have e2 : C[2]? = some (.int .u16 c.port) := by rw [hC]; rfl
  have e29 : C[29]? = some (.int .i64 c.kept) := by rw [hC]; rfl
  rw [← hC]
  clear hC
  by_cases h : 0 < c.kept
  · go_enter Tryz.func68, Tryz.ntmps68
    go_wp2
    all_goals go_ret
    all_goals refine ⟨?_, ((Below.refl _ _).alloc (Nat.le_refl _) _).alloc (by simp) _⟩
    all_goals exact ret_bool (by simp only [Cx.hasB]; first | (symm; rw [decide_eq_true_eq]; omega) | (symm; rw [decide_eq_false_iff_not]; omega))
  · have h0 : c.kept = 0 := by omega
    have e : c.hasB a b d = false := by simp [Cx.hasB, h]
    rw [e]
    rw [h0] at e29
    go_enter Tryz.func68, Tryz.ntmps68
    go_wp2
    go_ret
    exact ⟨rfl, ((Below.refl _ _).alloc (Nat.le_refl _) _).alloc (by simp) _⟩

theorem kindN_whole {c : Cx} {n : St} {refresh : Nat} (h : 0 < c.whole ∨ refresh ≤ c.age + 1) : kindN c n refresh = 3 := by unfold kindN; rw [if_pos h]
theorem kindN_full {c : Cx} {n : St} {refresh : Nat} (h : ¬ (0 < c.whole ∨ refresh ≤ c.age + 1)) (h2 : 0 < c.full) : kindN c n refresh = 2 := by unfold kindN; rw [if_neg h, if_pos h2]
theorem kindN_least {c : Cx} {n : St} {refresh : Nat} (h : ¬ (0 < c.whole ∨ refresh ≤ c.age + 1)) (h2 : ¬ 0 < c.full) : kindN c n refresh = leastN c n := by unfold kindN; rw [if_neg h, if_neg h2]

/-- the context and the next state in two blocks; nothing below has changed -/
structure InTwo (w : World) (C N : Array Value) (w1 : World) : Prop where
  one : w1.heap[w.heap.size]? = some (.cells C 75 (0, 0))
  two : w1.heap[w.heap.size + 1]? = some (.cells N 72 (0, 0))
  below : Below w.heap.size w w1
theorem InTwo.start (w : World) (C N : Array Value) : InTwo w C N ((w.alloc (.cells C 75)).alloc (.cells N 72)) :=
  ⟨block_alloc (heap_alloc_new w _) _, by have := heap_alloc_new (w.alloc (.cells C 75)) (.cells N 72); simpa using this, ((Below.refl _ _).alloc (Nat.le_refl _) _).alloc (by simp) _⟩
theorem InTwo.call {w w1 w2 : World} {C N : Array Value} (h : InTwo w C N w1) (hb : Below w1.heap.size w1 w2) : InTwo w C N w2 :=
  ⟨block_keep h.one hb, block_keep h.two hb, keep_below h.below hb (Nat.le_of_lt (block_lt h.one))⟩
theorem InTwo.drew {w w1 : World} {C N : Array Value} (h : InTwo w C N w1) : InTwo w C N w1.drew := ⟨h.one, h.two, h.below.drew⟩

def maxN (c : Cx) (n : St) (j : Nat) : Nat := (c.sts.take j).foldl (fun k r => max k (needsN n r)) 0
theorem maxN_le (c : Cx) (n : St) (j : Nat) : maxN c n j ≤ 2 := foldl_max_le _ _ _ (by omega)
theorem maxN_all (c : Cx) (n : St) (j : Nat) (h : c.kept ≤ j) : maxN c n j = leastN c n := by
  unfold maxN leastN
  rw [List.take_of_length_le]
  have : c.sts.length ≤ c.kept := List.length_take_le _ _
  omega
theorem maxN_succ (c : Cx) (n : St) (j : Nat) (hj : j < c.kept) (r : St) (hr : [c.s0, c.s1, c.s2, c.s3][j]? = some r) : maxN c n (j + 1) = max (maxN c n j) (needsN n r) := by
  unfold maxN
  have e : c.sts[j]? = some r := by unfold Cx.sts; rw [List.getElem?_take, if_pos hj]; exact hr
  rw [List.take_add_one, e]
  simp [List.foldl_append]

theorem inTwo0 {w w1 : World} {c : Cx} {n : St} {C N : Array Value} (hC : C = c.cells) (hN : N = n.cells) (h : InTwo w C N w1) :
    w1.cell? ⟨w.heap.size, 9, none⟩ = some (.int .u16 c.s0.seq) ∧ w1.cell? ⟨w.heap.size, 10, none⟩ = some (.int .u16 c.s0.stride) ∧ w1.cell? ⟨w.heap.size, 11, none⟩ = some (.int .u16 c.s0.offset) ∧ w1.cell? ⟨w.heap.size, 12, none⟩ = some (.int .u32 c.s0.lag) ∧ w1.cell? ⟨w.heap.size, 13, none⟩ = some (.int .u8 c.s0.flags) ∧ w1.cell? ⟨w.heap.size + 1, 0, none⟩ = some (.int .u16 n.seq) ∧ w1.cell? ⟨w.heap.size + 1, 1, none⟩ = some (.int .u16 n.stride) ∧ w1.cell? ⟨w.heap.size + 1, 2, none⟩ = some (.int .u16 n.offset) ∧ w1.cell? ⟨w.heap.size + 1, 3, none⟩ = some (.int .u32 n.lag) ∧ w1.cell? ⟨w.heap.size + 1, 4, none⟩ = some (.int .u8 n.flags) ∧ InTwo w C N w1 := by
  refine ⟨?_, ?_, ?_, ?_, ?_, ?_, ?_, ?_, ?_, ?_, h⟩
  all_goals first | (rw [block_cell h.one, hC]; rfl) | (rw [block_cell h.two, hN]; rfl)
theorem inTwo1 {w w1 : World} {c : Cx} {n : St} {C N : Array Value} (hC : C = c.cells) (hN : N = n.cells) (h : InTwo w C N w1) :
    w1.cell? ⟨w.heap.size, 14, none⟩ = some (.int .u16 c.s1.seq) ∧ w1.cell? ⟨w.heap.size, 15, none⟩ = some (.int .u16 c.s1.stride) ∧ w1.cell? ⟨w.heap.size, 16, none⟩ = some (.int .u16 c.s1.offset) ∧ w1.cell? ⟨w.heap.size, 17, none⟩ = some (.int .u32 c.s1.lag) ∧ w1.cell? ⟨w.heap.size, 18, none⟩ = some (.int .u8 c.s1.flags) ∧ w1.cell? ⟨w.heap.size + 1, 0, none⟩ = some (.int .u16 n.seq) ∧ w1.cell? ⟨w.heap.size + 1, 1, none⟩ = some (.int .u16 n.stride) ∧ w1.cell? ⟨w.heap.size + 1, 2, none⟩ = some (.int .u16 n.offset) ∧ w1.cell? ⟨w.heap.size + 1, 3, none⟩ = some (.int .u32 n.lag) ∧ w1.cell? ⟨w.heap.size + 1, 4, none⟩ = some (.int .u8 n.flags) ∧ InTwo w C N w1 := by
  refine ⟨?_, ?_, ?_, ?_, ?_, ?_, ?_, ?_, ?_, ?_, h⟩
  all_goals first | (rw [block_cell h.one, hC]; rfl) | (rw [block_cell h.two, hN]; rfl)
theorem inTwo2 {w w1 : World} {c : Cx} {n : St} {C N : Array Value} (hC : C = c.cells) (hN : N = n.cells) (h : InTwo w C N w1) :
    w1.cell? ⟨w.heap.size, 19, none⟩ = some (.int .u16 c.s2.seq) ∧ w1.cell? ⟨w.heap.size, 20, none⟩ = some (.int .u16 c.s2.stride) ∧ w1.cell? ⟨w.heap.size, 21, none⟩ = some (.int .u16 c.s2.offset) ∧ w1.cell? ⟨w.heap.size, 22, none⟩ = some (.int .u32 c.s2.lag) ∧ w1.cell? ⟨w.heap.size, 23, none⟩ = some (.int .u8 c.s2.flags) ∧ w1.cell? ⟨w.heap.size + 1, 0, none⟩ = some (.int .u16 n.seq) ∧ w1.cell? ⟨w.heap.size + 1, 1, none⟩ = some (.int .u16 n.stride) ∧ w1.cell? ⟨w.heap.size + 1, 2, none⟩ = some (.int .u16 n.offset) ∧ w1.cell? ⟨w.heap.size + 1, 3, none⟩ = some (.int .u32 n.lag) ∧ w1.cell? ⟨w.heap.size + 1, 4, none⟩ = some (.int .u8 n.flags) ∧ InTwo w C N w1 := by
  refine ⟨?_, ?_, ?_, ?_, ?_, ?_, ?_, ?_, ?_, ?_, h⟩
  all_goals first | (rw [block_cell h.one, hC]; rfl) | (rw [block_cell h.two, hN]; rfl)
theorem inTwo3 {w w1 : World} {c : Cx} {n : St} {C N : Array Value} (hC : C = c.cells) (hN : N = n.cells) (h : InTwo w C N w1) :
    w1.cell? ⟨w.heap.size, 24, none⟩ = some (.int .u16 c.s3.seq) ∧ w1.cell? ⟨w.heap.size, 25, none⟩ = some (.int .u16 c.s3.stride) ∧ w1.cell? ⟨w.heap.size, 26, none⟩ = some (.int .u16 c.s3.offset) ∧ w1.cell? ⟨w.heap.size, 27, none⟩ = some (.int .u32 c.s3.lag) ∧ w1.cell? ⟨w.heap.size, 28, none⟩ = some (.int .u8 c.s3.flags) ∧ w1.cell? ⟨w.heap.size + 1, 0, none⟩ = some (.int .u16 n.seq) ∧ w1.cell? ⟨w.heap.size + 1, 1, none⟩ = some (.int .u16 n.stride) ∧ w1.cell? ⟨w.heap.size + 1, 2, none⟩ = some (.int .u16 n.offset) ∧ w1.cell? ⟨w.heap.size + 1, 3, none⟩ = some (.int .u32 n.lag) ∧ w1.cell? ⟨w.heap.size + 1, 4, none⟩ = some (.int .u8 n.flags) ∧ InTwo w C N w1 := by
  refine ⟨?_, ?_, ?_, ?_, ?_, ?_, ?_, ?_, ?_, ?_, h⟩
  all_goals first | (rw [block_cell h.one, hC]; rfl) | (rw [block_cell h.two, hN]; rfl)

set_option maxRecDepth 100000 in
set_option maxHeartbeats 2000000 in
theorem cleast_any (c : Cx) (n : St) (w : World) (hc : c.ok) (hn : n.ok) :
    Calls Tryz.prog 102 #[.agg c.cells, .agg n.cells] w fun e w' => e = .returned (.int .u8 (leastN c n : Nat)) ∧ Below w.heap.size w w' := by
  obtain ⟨C, hC⟩ : ∃ C, C = c.cells := ⟨_, rfl⟩
  obtain ⟨N, hN⟩ : ∃ N, N = n.cells := ⟨_, rfl⟩
  have hk := hc.kept
  rw [← hC, ← hN]
  have HC := hide hC
  have HN := hide hN
  have HO := hide hc
  have HNO := hide hn
  have Q := hide (InTwo.start w C N)
  have e29 : C[29]? = some (.int .i64 c.kept) := by rw [hC]; rfl
  clear hC hN hc hn
  go_enter Tryz.func102, Tryz.ntmps102
  go_wp2_with fail
  go_loopw [5, 6] (fun kd i wr => ∃ j : Nat, j ≤ 4 ∧ j ≤ c.kept ∧ i = .int .i64 j ∧ kd = .int .u8 (maxN c n j : Nat) ∧ InTwo w C N wr) (fun _ i _ => 4 - (intOf i).toNat)
  case atStart => exact ⟨0, by omega, by omega, rfl, rfl, unhide Q⟩
  case round =>
    obtain ⟨j, hj4, hjk, rfl, rfl, hT⟩ := hrel
    clear Q
    have k29 : wr.cell? ⟨w.heap.size, 29, none⟩ = some (.int .i64 c.kept) := by rw [block_cell hT.one]; exact e29
    have HT := hide hT
    clear hT
    by_cases hlt : j < c.kept
    · obtain rfl | rfl | rfl | rfl : j = 0 ∨ j = 1 ∨ j = 2 ∨ j = 3 := by omega
      · have HM := hide (maxN_succ c n 0 hlt c.s0 rfl)
        have hle := maxN_le c n 0
        have hle2 := needsN_le n c.s0
        go_wp2_with fail
        go_region_held3 (fun w' => w'.cell? ⟨w.heap.size, 9, none⟩ = some (.int .u16 c.s0.seq) ∧ w'.cell? ⟨w.heap.size, 10, none⟩ = some (.int .u16 c.s0.stride) ∧ w'.cell? ⟨w.heap.size, 11, none⟩ = some (.int .u16 c.s0.offset) ∧ w'.cell? ⟨w.heap.size, 12, none⟩ = some (.int .u32 c.s0.lag) ∧ w'.cell? ⟨w.heap.size, 13, none⟩ = some (.int .u8 c.s0.flags) ∧ w'.cell? ⟨w.heap.size + 1, 0, none⟩ = some (.int .u16 n.seq) ∧ w'.cell? ⟨w.heap.size + 1, 1, none⟩ = some (.int .u16 n.stride) ∧ w'.cell? ⟨w.heap.size + 1, 2, none⟩ = some (.int .u16 n.offset) ∧ w'.cell? ⟨w.heap.size + 1, 3, none⟩ = some (.int .u32 n.lag) ∧ w'.cell? ⟨w.heap.size + 1, 4, none⟩ = some (.int .u8 n.flags) ∧ InTwo w C N w')
          ((first | (exact inTwo0 (unhide HC) (unhide HN) (unhide HT).drew) | (exact inTwo0 (unhide HC) (unhide HN) (InTwo.call (by go_split_ands; assumption) hbel))))
          ((go_at_call 119; refine (needs_any n c.s0 _ (unhide HNO) (unhide HO).s0).mono ?_; rintro e w1 ⟨rfl, hbel⟩))
        all_goals go_split_ands
        all_goals (have HT2 := hide ‹InTwo w C N _›)
        all_goals go_wp2
        all_goals
          go_roundw
          case rel => exact ⟨1, by omega, by omega, by go_num, by rw [unhide HM]; first | (rw [Nat.max_eq_right (by omega)]) | (rw [Nat.max_eq_left (by omega)]), unhide HT2⟩
          case measure => simp [intOf]
      · have HM := hide (maxN_succ c n 1 hlt c.s1 rfl)
        have hle := maxN_le c n 1
        have hle2 := needsN_le n c.s1
        go_wp2_with fail
        go_region_held3 (fun w' => w'.cell? ⟨w.heap.size, 14, none⟩ = some (.int .u16 c.s1.seq) ∧ w'.cell? ⟨w.heap.size, 15, none⟩ = some (.int .u16 c.s1.stride) ∧ w'.cell? ⟨w.heap.size, 16, none⟩ = some (.int .u16 c.s1.offset) ∧ w'.cell? ⟨w.heap.size, 17, none⟩ = some (.int .u32 c.s1.lag) ∧ w'.cell? ⟨w.heap.size, 18, none⟩ = some (.int .u8 c.s1.flags) ∧ w'.cell? ⟨w.heap.size + 1, 0, none⟩ = some (.int .u16 n.seq) ∧ w'.cell? ⟨w.heap.size + 1, 1, none⟩ = some (.int .u16 n.stride) ∧ w'.cell? ⟨w.heap.size + 1, 2, none⟩ = some (.int .u16 n.offset) ∧ w'.cell? ⟨w.heap.size + 1, 3, none⟩ = some (.int .u32 n.lag) ∧ w'.cell? ⟨w.heap.size + 1, 4, none⟩ = some (.int .u8 n.flags) ∧ InTwo w C N w')
          ((first | (exact inTwo1 (unhide HC) (unhide HN) (unhide HT).drew) | (exact inTwo1 (unhide HC) (unhide HN) (InTwo.call (by go_split_ands; assumption) hbel))))
          ((go_at_call 119; refine (needs_any n c.s1 _ (unhide HNO) (unhide HO).s1).mono ?_; rintro e w1 ⟨rfl, hbel⟩))
        all_goals go_split_ands
        all_goals (have HT2 := hide ‹InTwo w C N _›)
        all_goals go_wp2
        all_goals
          go_roundw
          case rel => exact ⟨2, by omega, by omega, by go_num, by rw [unhide HM]; first | (rw [Nat.max_eq_right (by omega)]) | (rw [Nat.max_eq_left (by omega)]), unhide HT2⟩
          case measure => simp [intOf]
      · have HM := hide (maxN_succ c n 2 hlt c.s2 rfl)
        have hle := maxN_le c n 2
        have hle2 := needsN_le n c.s2
        go_wp2_with fail
        go_region_held3 (fun w' => w'.cell? ⟨w.heap.size, 19, none⟩ = some (.int .u16 c.s2.seq) ∧ w'.cell? ⟨w.heap.size, 20, none⟩ = some (.int .u16 c.s2.stride) ∧ w'.cell? ⟨w.heap.size, 21, none⟩ = some (.int .u16 c.s2.offset) ∧ w'.cell? ⟨w.heap.size, 22, none⟩ = some (.int .u32 c.s2.lag) ∧ w'.cell? ⟨w.heap.size, 23, none⟩ = some (.int .u8 c.s2.flags) ∧ w'.cell? ⟨w.heap.size + 1, 0, none⟩ = some (.int .u16 n.seq) ∧ w'.cell? ⟨w.heap.size + 1, 1, none⟩ = some (.int .u16 n.stride) ∧ w'.cell? ⟨w.heap.size + 1, 2, none⟩ = some (.int .u16 n.offset) ∧ w'.cell? ⟨w.heap.size + 1, 3, none⟩ = some (.int .u32 n.lag) ∧ w'.cell? ⟨w.heap.size + 1, 4, none⟩ = some (.int .u8 n.flags) ∧ InTwo w C N w')
          ((first | (exact inTwo2 (unhide HC) (unhide HN) (unhide HT).drew) | (exact inTwo2 (unhide HC) (unhide HN) (InTwo.call (by go_split_ands; assumption) hbel))))
          ((go_at_call 119; refine (needs_any n c.s2 _ (unhide HNO) (unhide HO).s2).mono ?_; rintro e w1 ⟨rfl, hbel⟩))
        all_goals go_split_ands
        all_goals (have HT2 := hide ‹InTwo w C N _›)
        all_goals go_wp2
        all_goals
          go_roundw
          case rel => exact ⟨3, by omega, by omega, by go_num, by rw [unhide HM]; first | (rw [Nat.max_eq_right (by omega)]) | (rw [Nat.max_eq_left (by omega)]), unhide HT2⟩
          case measure => simp [intOf]
      · have HM := hide (maxN_succ c n 3 hlt c.s3 rfl)
        have hle := maxN_le c n 3
        have hle2 := needsN_le n c.s3
        go_wp2_with fail
        go_region_held3 (fun w' => w'.cell? ⟨w.heap.size, 24, none⟩ = some (.int .u16 c.s3.seq) ∧ w'.cell? ⟨w.heap.size, 25, none⟩ = some (.int .u16 c.s3.stride) ∧ w'.cell? ⟨w.heap.size, 26, none⟩ = some (.int .u16 c.s3.offset) ∧ w'.cell? ⟨w.heap.size, 27, none⟩ = some (.int .u32 c.s3.lag) ∧ w'.cell? ⟨w.heap.size, 28, none⟩ = some (.int .u8 c.s3.flags) ∧ w'.cell? ⟨w.heap.size + 1, 0, none⟩ = some (.int .u16 n.seq) ∧ w'.cell? ⟨w.heap.size + 1, 1, none⟩ = some (.int .u16 n.stride) ∧ w'.cell? ⟨w.heap.size + 1, 2, none⟩ = some (.int .u16 n.offset) ∧ w'.cell? ⟨w.heap.size + 1, 3, none⟩ = some (.int .u32 n.lag) ∧ w'.cell? ⟨w.heap.size + 1, 4, none⟩ = some (.int .u8 n.flags) ∧ InTwo w C N w')
          ((first | (exact inTwo3 (unhide HC) (unhide HN) (unhide HT).drew) | (exact inTwo3 (unhide HC) (unhide HN) (InTwo.call (by go_split_ands; assumption) hbel))))
          ((go_at_call 119; refine (needs_any n c.s3 _ (unhide HNO) (unhide HO).s3).mono ?_; rintro e w1 ⟨rfl, hbel⟩))
        all_goals go_split_ands
        all_goals (have HT2 := hide ‹InTwo w C N _›)
        all_goals go_wp2
        all_goals
          go_roundw
          case rel => exact ⟨4, by omega, by omega, by go_num, by rw [unhide HM]; first | (rw [Nat.max_eq_right (by omega)]) | (rw [Nat.max_eq_left (by omega)]), unhide HT2⟩
          case measure => simp [intOf]
    · have hlt' : c.kept ≤ j := by omega
      have HM := hide (maxN_all c n j hlt')
      go_wp2
      go_ret
      exact ⟨ret_int (by rw [unhide HM]), (unhide HT).below⟩

set_option maxRecDepth 100000 in
set_option maxHeartbeats 2000000 in
theorem ckind_any (c : Cx) (n : St) (refresh : Nat) (w : World) (hc : c.ok) (hn : n.ok) (hr : refresh ≤ 100) (hr0 : 0 < refresh) :
    Calls Tryz.prog 72 #[.agg c.cells, .agg n.cells, .int .i64 refresh] w fun e w' => e = .returned (.int .u8 (kindN c n refresh : Nat)) ∧ Below w.heap.size w w' := by
  have ha := hc.age
  have hw := hc.whole
  have hf := hc.full
  obtain ⟨C, hC⟩ : ∃ C, C = c.cells := ⟨_, rfl⟩
  have e6 : C[6]? = some (.int .i64 c.whole) := by rw [hC]; rfl
  have e7 : C[7]? = some (.int .i64 c.full) := by rw [hC]; rfl
  have e8 : C[8]? = some (.int .i64 c.age) := by rw [hC]; rfl
  have hs : C.size = 30 := by rw [hC]; rfl
  have Q := hide ((CxAt.new w C 75 hs).alloc (.cells n.cells 72))
  rw [← hC]
  have HC := hide hC
  have HO := hide hc
  have HN := hide hn
  clear hC hs hc hn
  unfold St.cells
  by_cases h1 : 0 < c.whole
  · rw [kindN_whole (Or.inl h1)]
    go_enter Tryz.func72, Tryz.ntmps72
    go_wp2
    go_ret
    exact ⟨rfl, ((Below.refl _ _).alloc (Nat.le_refl _) _).alloc (by simp) _⟩
  · have h1' : c.whole = 0 := by omega
    rw [h1'] at e6
    by_cases h2 : refresh ≤ c.age + 1
    · rw [kindN_whole (Or.inr h2)]
      go_enter Tryz.func72, Tryz.ntmps72
      go_wp2
      go_ret
      exact ⟨rfl, ((Below.refl _ _).alloc (Nat.le_refl _) _).alloc (by simp) _⟩
    · by_cases h3 : 0 < c.full
      · rw [kindN_full (by omega) h3]
        go_enter Tryz.func72, Tryz.ntmps72
        go_wp2
        go_ret
        exact ⟨rfl, ((Below.refl _ _).alloc (Nat.le_refl _) _).alloc (by simp) _⟩
      · rw [kindN_least (by omega) h3]
        have h3' : c.full = 0 := by omega
        rw [h3'] at e7
        go_enter Tryz.func72, Tryz.ntmps72
        go_wp2_with (first | (refine wpList_load_mid rfl 75 _ rfl _ _ rfl C.toList _ (unhide Q).1 Tryz.underlying75 rfl (unhide Q).size ?_; simp only [Array.toArray_toList]) | (go_at_call 102; rw [unhide HC]; refine (cleast_any c n _ (unhide HO) (unhide HN)).mono ?_; rintro e w1 ⟨rfl, hb⟩; have HB := hide hb; clear hb))
        go_ret
        exact ⟨rfl, keep_below (((Below.refl _ _).alloc (Nat.le_refl _) _).alloc (by simp) _) (by rw [← unhide HC] at HB; exact unhide HB) (by simp; omega)⟩

end Go.Proofs.YtgpojbgjfibblabGreat.texts
