/-
  The walks of the program's contexts (package sender): add, sent.
  Conditions stand in each theorem.
-/
import Derived.Test.YtgpojbgjfibblabGreatCtxMore
namespace Go.Proofs.YtgpojbgjfibblabGreat.texts
open Go.RowKit
set_option linter.unusedVariables false
attribute [local go_sem ↓] Go.wp_at_zero Go.wp_at_succ

/-- cells written one behind the other -/
def putRow (C : Array Value) : Nat → List Value → Array Value
  | _, [] => C
  | o, v :: vs => putRow (C.setIfInBounds o v) (o + 1) vs
theorem putRow_size (vs : List Value) : ∀ (C : Array Value) (o : Nat), (putRow C o vs).size = C.size := by
  induction vs with
  | nil => intro C o; rfl
  | cons v vs ih => intro C o; rw [putRow, ih]; simp
theorem setCells_eq {g : Nat} {t : TypeId} {fr : Nat × Nat} (vs : List Value) : ∀ (w : World) (C : Array Value) (o : Nat), w.heap[g]? = some (.cells C t fr) → w.setCells g o vs = w.setRow g (putRow C o vs) := by
  induction vs with
  | nil => intro w C o h; rw [World.setCells, putRow, setRow_self w g C t fr h]
  | cons v vs ih =>
    intro w C o h
    rw [World.setCells, putRow, setCell_eq_setRow w g o C t fr v h, ih (w.setRow g (C.setIfInBounds o v)) (C.setIfInBounds o v) (o + 1) (setRow_heap w g C _ t fr h), setRow_setRow]

theorem there_block {w : World} {g : Nat} {C : Array Value} {t : TypeId} (h : w.heap[g]? = some (.cells C t (0, 0))) (o n : Nat) (hn : o + n ≤ C.size) : w.there g o n := fun j hj => by
  refine ⟨?_, block_free h _⟩
  rw [block_cell h, Array.getElem?_eq_getElem (show o + j < C.size by omega)]
  rfl
/-- a struct is stored into the midst of a block, a struct is loaded out of it -/
theorem store_part {ops : Array Oper} {rest : List Oper} {dst : Option Tmp} {ty k : TypeId} {pos : String} {aft : Array Edge} {x y : Operand} {a : Act} {w : World} {Q : Exit → Act → World → Prop}
    {g o : Nat} {cells : Array Value} {t : TypeId} {C : Array Value} (hx : a.eval x = .pointer (some ⟨g, o, none⟩)) (hy : a.eval y = .agg cells)
    (hg : w.heap[g]? = some (.cells C t (0, 0))) (hn : o + cells.size ≤ C.size) (hi : (Tryz.prog.info? ty).map (·.size) = some cells.size)
    (h1 : cells.all (·.oneCell') = true)
    (h : wpList Tryz.prog ops Q rest (a.put dst undef) (w.setRow g (putRow C o cells.toList))) : wpList Tryz.prog ops Q (⟨dst, .store ty x y, k, pos, aft, none⟩ :: rest) a w :=
  wpList_store_mid rfl ty x y rfl g o cells hx hy (there_block hg o _ hn) hi h1 (by rw [setCells_eq _ w C o hg]; exact h)

theorem infoSt : (Tryz.prog.info? 72).map (·.size) = some 5 := by kernel_rfl
theorem St.cells_one (s : St) : s.cells.all (·.oneCell') = true := by
  refine Array.all_eq_true_iff_forall_mem.2 (fun v hv => ?_)
  simp only [St.cells, List.mem_toArray, List.mem_cons, List.not_mem_nil, or_false] at hv
  rcases hv with h | h | h | h | h <;> (subst h; rfl)

/-- the walk stands still here -/
structure Stop (p : Prop) : Prop where
  out : p
theorem stop_load {ops : Array Oper} {rest : List Oper} {dst : Option Tmp} {ty k : TypeId} {pos : String} {aft : Array Edge} {x : Operand} {a : Act} {w : World} {Q : Exit → Act → World → Prop}
    (h : Stop (wpList Tryz.prog ops Q (⟨dst, .load ty x, k, pos, aft, none⟩ :: rest) a w)) : wpList Tryz.prog ops Q (⟨dst, .load ty x, k, pos, aft, none⟩ :: rest) a w := h.out

/-- the context half way through 'add' -/
def addJ (c : Cx) (keep : Nat) : Nat → Cx
  | 0 => { c with s1 := if 1 < keep then c.s0 else c.s1, s2 := if 2 < keep then c.s1 else c.s2, s3 := if 3 < keep then c.s2 else c.s3 }
  | 1 => { c with s2 := if 2 < keep then c.s1 else c.s2, s3 := if 3 < keep then c.s2 else c.s3 }
  | 2 => { c with s3 := if 3 < keep then c.s2 else c.s3 }
  | _ => c

/-- the three blocks of 'add' -/
structure InAdd (w : World) (C N Z : Array Value) (w1 : World) : Prop where
  one : w1.heap[w.heap.size]? = some (.cells C 75 (0, 0))
  two : w1.heap[w.heap.size + 1]? = some (.cells N 72 (0, 0))
  three : w1.heap[w.heap.size + 1 + 1]? = some (.cells Z 75 (0, 0))
  below : Below w.heap.size w w1
theorem InAdd.start (w : World) (C N Z : Array Value) : InAdd w C N Z (((w.alloc (.cells C 75)).alloc (.cells N 72)).alloc (.cells Z 75)) :=
  ⟨block_alloc (block_alloc (heap_alloc_new w _) _) _, second_alloc w _ _ _, third_alloc w _ _ _, (((Below.refl _ _).alloc (Nat.le_refl _) _).alloc (by simp) _).alloc (by simp; omega) _⟩
theorem InAdd.put {w w1 : World} {C N Z : Array Value} (h : InAdd w C N Z w1) (C' : Array Value) : InAdd w C' N Z (w1.setRow w.heap.size C') :=
  ⟨setRow_heap _ _ _ _ _ _ h.one, by rw [setRow_other _ _ _ _ (by omega)]; exact h.two, by rw [setRow_other _ _ _ _ (by omega)]; exact h.three, below_setRow h.below (Nat.le_refl _) _⟩

theorem block_put29 {w : World} {g : Nat} {D : Cx} {k : Nat} (h : w.heap[g]? = some (.cells D.cells 75 (0, 0))) : (w.setCell ⟨g, 29, none⟩ (.int .i64 ((k : Int) + 1))).heap[g]? = some (.cells (Cx.cells { D with kept := k + 1 }) 75 (0, 0)) := by
  rw [heap_setCell_same w g 29 _ _ _ h]
  rfl

set_option maxRecDepth 100000 in
set_option maxHeartbeats 2000000 in
theorem cadd_any (c : Cx) (n : St) (keep : Nat) (w : World) (hc : c.ok) :
    Calls Tryz.prog 104 #[.agg c.cells, .agg n.cells, .int .i64 keep] w fun e w' => e = .returned (.agg (addN c n keep).cells) ∧ Below w.heap.size w w' := by
  have hk := hc.kept
  obtain ⟨Z, hZ⟩ : ∃ Z : Array Value, Z = Cx.cells ⟨0, 0, 0, 0, 0, 0, 0, 0, 0, St.zero, St.zero, St.zero, St.zero, 0⟩ := ⟨_, rfl⟩
  have HZ := hide hZ
  have zv : ∀ w, (zeroValue 75).run Tryz.prog w = .ok (.agg Z) w := by rw [hZ]; intro w; exact Tryz.zeroValue75 w
  clear hZ
  obtain ⟨C, hC⟩ : ∃ C, C = c.cells := ⟨_, rfl⟩
  obtain ⟨N, hN⟩ : ∃ N, N = n.cells := ⟨_, rfl⟩
  rw [← hC, ← hN]
  have HC := hide hC
  have HN := hide hN
  clear hC hN hc
  have Q := hide (InAdd.start w C N Z)
  go_enter Tryz.func104, Tryz.ntmps104
  go_wp2_with fail
  go_loopw [7] (fun i wr => ∃ j : Nat, j ≤ 3 ∧ i = .int .i64 j ∧ InAdd w (addJ c keep j).cells N Z wr) (fun i _ => (intOf i).toNat)
  case atStart => exact ⟨3, by omega, rfl, by rw [← show C = (addJ c keep 3).cells from unhide HC]; exact unhide Q⟩
  case round =>
    obtain ⟨j, hj, rfl, hT⟩ := hrel
    clear Q
    have HT := hide hT
    clear hT
    obtain rfl | rfl | rfl | rfl : j = 0 ∨ j = 1 ∨ j = 2 ∨ j = 3 := by omega
    · obtain ⟨D, hD⟩ : ∃ D : Cx, D = { addJ c keep 0 with s0 := n } := ⟨_, rfl⟩
      have hDk : D.kept = c.kept := by rw [hD]; rfl
      have HD := hide hD
      have HP := hide (show putRow (addJ c keep 0).cells 9 N.toList = D.cells by rw [hD, unhide HN]; rfl)
      have HDK := hide hDk
      clear hD hDk
      by_cases h : c.kept < keep
      · have HF := hide (show addN c n keep = { D with kept := c.kept + 1 } by rw [unhide HD]; simp [addN, addJ, h])
        go_wp2_with (refine stop_load (ty := 72) ?_)
        refine ⟨?_⟩
        refine load_whole (ty := 72) rfl (unhide HT).two Tryz.underlying72 rfl (by rw [unhide HN]; exact infoSt) ?_
        go_wp2_with (refine store_part (ty := 72) rfl rfl (unhide HT).one (by rw [unhide HN]; simp [Cx.cells, St.cells]) (by rw [unhide HN]; exact infoSt) (by rw [unhide HN]; exact St.cells_one _) ?_; refine Stop.out ?_)
        refine ⟨?_⟩
        rw [unhide HP]
        have K := (unhide HT).put D.cells
        generalize wr.setRow w.heap.size D.cells = w2 at K ⊢
        have k29 : w2.cell? ⟨w.heap.size, 29, none⟩ = some (.int .i64 c.kept) := (block_cell K.one 29).trans (by rw [← unhide HDK]; rfl)
        have f29 : w2.frozen? ⟨w.heap.size, 29, none⟩ = false := block_free K.one 29
        have HT2 := hide K
        clear K
        go_wp2_with (refine stop_load (ty := 75) ?_)
        refine ⟨?_⟩
        refine load_whole (ty := 75) (cs := (Cx.cells { D with kept := c.kept + 1 })) rfl (block_put29 (unhide HT2).one) Tryz.underlying75 rfl infoCx ?_
        go_wp2_with (refine store_whole (ty := 75) (cells := (Cx.cells { D with kept := c.kept + 1 })) rfl rfl (block_set (unhide HT2).three (by simp; omega) _) infoCx (by rw [unhide HZ]; rfl) (Cx.cells_one _) ?_)
        refine ret_whole Tryz.results104 rfl (setRow_heap _ _ _ _ _ _ (block_set (unhide HT2).three (by simp; omega) _)) Tryz.underlying75 rfl infoCx rfl ⟨by rw [unhide HF], below_setRow ((unhide HT2).below.setCell (Nat.le_refl _) _) (by omega) _⟩
      · have HF := hide (show addN c n keep = D by rw [unhide HD]; simp [addN, addJ, h])
        go_wp2_with (refine stop_load (ty := 72) ?_)
        refine ⟨?_⟩
        refine load_whole (ty := 72) rfl (unhide HT).two Tryz.underlying72 rfl (by rw [unhide HN]; exact infoSt) ?_
        go_wp2_with (refine store_part (ty := 72) rfl rfl (unhide HT).one (by rw [unhide HN]; simp [Cx.cells, St.cells]) (by rw [unhide HN]; exact infoSt) (by rw [unhide HN]; exact St.cells_one _) ?_; refine Stop.out ?_)
        refine ⟨?_⟩
        rw [unhide HP]
        have K := (unhide HT).put D.cells
        generalize wr.setRow w.heap.size D.cells = w2 at K ⊢
        have k29 : w2.cell? ⟨w.heap.size, 29, none⟩ = some (.int .i64 c.kept) := (block_cell K.one 29).trans (by rw [← unhide HDK]; rfl)
        have f29 : w2.frozen? ⟨w.heap.size, 29, none⟩ = false := block_free K.one 29
        have HT2 := hide K
        clear K
        go_wp2_with (refine stop_load (ty := 75) ?_)
        refine ⟨?_⟩
        refine load_whole (ty := 75) (cs := D.cells) rfl (unhide HT2).one Tryz.underlying75 rfl infoCx ?_
        go_wp2_with (refine store_whole (ty := 75) (cells := D.cells) rfl rfl (unhide HT2).three infoCx (by rw [unhide HZ]; rfl) (Cx.cells_one _) ?_)
        refine ret_whole Tryz.results104 rfl (setRow_heap _ _ _ _ _ _ (unhide HT2).three) Tryz.underlying75 rfl infoCx rfl ⟨by rw [unhide HF], below_setRow (unhide HT2).below (by omega) _⟩
    · by_cases h : 1 < keep
      · have hb : addJ c keep 0 = { addJ c keep 1 with s1 := c.s0 } := by simp [addJ, h]
        have HB := hide hb
        clear hb
        go_wp2_with (first
          | (refine load_part (ty := 72) (cs := c.s0.cells) rfl ?_ Tryz.underlying72 rfl infoSt ?_; exact World.rangeAt_of_block (unhide HT).one 9 5)
          | (refine store_part (ty := 72) rfl rfl (unhide HT).one (by simp [Cx.cells, St.cells]) infoSt (St.cells_one _) ?_))
        go_roundw
        case rel => exact ⟨0, by omega, by go_num, by rw [unhide HB]; exact (unhide HT).put _⟩
        case measure => simp [intOf]
      · have hb : addJ c keep 0 = addJ c keep 1 := by simp [addJ, h]
        have HB := hide hb
        clear hb
        go_wp2
        go_roundw
        case rel => exact ⟨0, by omega, by go_num, by rw [unhide HB]; exact unhide HT⟩
        case measure => simp [intOf]
    · by_cases h : 2 < keep
      · have hb : addJ c keep 1 = { addJ c keep 2 with s2 := c.s1 } := by simp [addJ, h]
        have HB := hide hb
        clear hb
        go_wp2_with (first
          | (refine load_part (ty := 72) (cs := c.s1.cells) rfl ?_ Tryz.underlying72 rfl infoSt ?_; exact World.rangeAt_of_block (unhide HT).one 14 5)
          | (refine store_part (ty := 72) rfl rfl (unhide HT).one (by simp [Cx.cells, St.cells]) infoSt (St.cells_one _) ?_))
        go_roundw
        case rel => exact ⟨1, by omega, by go_num, by rw [unhide HB]; exact (unhide HT).put _⟩
        case measure => simp [intOf]
      · have hb : addJ c keep 1 = addJ c keep 2 := by simp [addJ, h]
        have HB := hide hb
        clear hb
        go_wp2
        go_roundw
        case rel => exact ⟨1, by omega, by go_num, by rw [unhide HB]; exact unhide HT⟩
        case measure => simp [intOf]
    · by_cases h : 3 < keep
      · have hb : addJ c keep 2 = { addJ c keep 3 with s3 := c.s2 } := by simp [addJ, h]
        have HB := hide hb
        clear hb
        go_wp2_with (first
          | (refine load_part (ty := 72) (cs := c.s2.cells) rfl ?_ Tryz.underlying72 rfl infoSt ?_; exact World.rangeAt_of_block (unhide HT).one 19 5)
          | (refine store_part (ty := 72) rfl rfl (unhide HT).one (by simp [Cx.cells, St.cells]) infoSt (St.cells_one _) ?_))
        go_roundw
        case rel => exact ⟨2, by omega, by go_num, by rw [unhide HB]; exact (unhide HT).put _⟩
        case measure => simp [intOf]
      · have hb : addJ c keep 2 = addJ c keep 3 := by simp [addJ, h]
        have HB := hide hb
        clear hb
        go_wp2
        go_roundw
        case rel => exact ⟨2, by omega, by go_num, by rw [unhide HB]; exact unhide HT⟩
        case measure => simp [intOf]

end Go.Proofs.YtgpojbgjfibblabGreat.texts
