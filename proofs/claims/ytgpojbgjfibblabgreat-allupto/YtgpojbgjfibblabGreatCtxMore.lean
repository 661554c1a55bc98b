/-
  The walks of the program's contexts (package sender): begin, stride, place, flow, add, sent.
  Conditions stand in each theorem.
-/
import Derived.Test.YtgpojbgjfibblabGreatCtxWalk
import Derived.Laws.CopyOwn
namespace Go.Proofs.YtgpojbgjfibblabGreat.texts
open Go.RowKit
set_option linter.unusedVariables false
attribute [local go_sem ↓] Go.wp_at_zero Go.wp_at_succ

theorem third_alloc (w : World) (a b c : Obj) : (((w.alloc a).alloc b).alloc c).heap[w.heap.size + 1 + 1]? = some c := by
  have := heap_alloc_new ((w.alloc a).alloc b) c
  simpa using this
theorem second_alloc (w : World) (a b c : Obj) : (((w.alloc a).alloc b).alloc c).heap[w.heap.size + 1]? = some b := by
  have := heap_alloc_new (w.alloc a) b
  exact block_alloc (by simpa using this) c
theorem Cx.cells_size (c : Cx) : c.cells.size = 30 := rfl
theorem Cx.cells_one (c : Cx) : c.cells.all (·.oneCell') = true := by
  refine Array.all_eq_true_iff_forall_mem.2 (fun v hv => ?_)
  simp only [Cx.cells, List.mem_toArray, List.mem_cons, List.not_mem_nil, or_false] at hv
  rcases hv with h | h | h | h | h | h | h | h | h | h | h | h | h | h | h | h | h | h | h | h | h | h | h | h | h | h | h | h | h | h <;> (subst h; rfl)
theorem Cx.info (c : Cx) : (Tryz.prog.info? 75).map (·.size) = some c.cells.size := infoCx

/-- a struct is stored whole into a block of its own, a struct is loaded whole out of one: the operations as the walk meets them -/
theorem store_whole {ops : Array Oper} {rest : List Oper} {dst : Option Tmp} {ty k : TypeId} {pos : String} {aft : Array Edge} {x y : Operand} {a : Act} {w : World} {Q : Exit → Act → World → Prop}
    {g : Nat} {cells : Array Value} {t : TypeId} {old : Array Value} (hx : a.eval x = .pointer (some ⟨g, 0, none⟩)) (hy : a.eval y = .agg cells)
    (hg : w.heap[g]? = some (.cells old t (0, 0))) (hi : (Tryz.prog.info? ty).map (·.size) = some cells.size)
    (hold : old.size = cells.size) (h1 : cells.all (·.oneCell') = true)
    (h : wpList Tryz.prog ops Q rest (a.put dst undef) (w.setRow g cells)) : wpList Tryz.prog ops Q (⟨dst, .store ty x y, k, pos, aft, none⟩ :: rest) a w :=
  wpList_store_row rfl ty x y rfl g cells hx hy t old hg hi hold h1 h
theorem load_part {ops : Array Oper} {rest : List Oper} {dst : Option Tmp} {ty k : TypeId} {pos : String} {aft : Array Edge} {x : Operand} {a : Act} {w : World} {Q : Exit → Act → World → Prop}
    {g o : Nat} {cs : Array Value} {d : TypeDesc} (hx : a.eval x = .pointer (some ⟨g, o, none⟩))
    (hg : w.rangeAt g o cs.toList) (hu : Tryz.prog.underlying ty = some d) (hd : d.isRow = true)
    (hi : (Tryz.prog.info? ty).map (·.size) = some cs.size)
    (h : wpList Tryz.prog ops Q rest (a.put dst (.agg cs)) w) : wpList Tryz.prog ops Q (⟨dst, .load ty x, k, pos, aft, none⟩ :: rest) a w :=
  wpList_load_mid rfl ty x rfl g o hx cs.toList d hg hu hd (by rw [hi, Array.length_toList]) (by simpa using h)
theorem range_block {w : World} {g : Nat} {cs : Array Value} {t : TypeId} {fr : Nat × Nat} (hg : w.heap[g]? = some (.cells cs t fr)) : w.rangeAt g 0 cs.toList := by
  have := World.rangeAt_of_block hg 0 cs.size
  simpa using this
theorem load_whole {ops : Array Oper} {rest : List Oper} {dst : Option Tmp} {ty k : TypeId} {pos : String} {aft : Array Edge} {x : Operand} {a : Act} {w : World} {Q : Exit → Act → World → Prop}
    {g : Nat} {cs : Array Value} {t : TypeId} {d : TypeDesc} (hx : a.eval x = .pointer (some ⟨g, 0, none⟩))
    (hg : w.heap[g]? = some (.cells cs t (0, 0))) (hu : Tryz.prog.underlying ty = some d) (hd : d.isRow = true)
    (hi : (Tryz.prog.info? ty).map (·.size) = some cs.size)
    (h : wpList Tryz.prog ops Q rest (a.put dst (.agg cs)) w) : wpList Tryz.prog ops Q (⟨dst, .load ty x, k, pos, aft, none⟩ :: rest) a w :=
  load_part hx (range_block hg) hu hd hi h
/-- a call hands a struct back that lies in a block of its own -/
theorem ret_whole {fn : Func} {p : Tmp} {ty : TypeId} {d : TypeDesc} {a : Act} {w : World} {g : Nat} {t : TypeId} {cs : Array Value} {R : Ending → World → Prop}
    (h : fn.results = #[.cell p ty]) (hp : a.tmps.getD p undef = .pointer (some ⟨g, 0, none⟩)) (hg : w.heap[g]? = some (.cells cs t (0, 0)))
    (hu : Tryz.prog.underlying ty = some d) (hd : d.isRow = true) (hi : (Tryz.prog.info? ty).map (·.size) = some cs.size) (hf : a.defers = []) (hR : R (.returned (.agg cs)) w) :
    bodyPost Tryz.prog fn R .ret a w := by
  refine bodyPost_ret (v := .agg cs) ?_ hf hR
  have hp' : a.tmps[p]?.getD undef = .pointer (some ⟨g, 0, none⟩) := by simpa using hp
  have := run_loadVar_mid (P := Tryz.prog) w g 0 ty cs.toList d (range_block hg) hu hd (by rw [hi, Array.length_toList])
  simp [results, h, hp', asAddr, this]

set_option maxRecDepth 100000 in
set_option maxHeartbeats 2000000 in
theorem cbegin_any (c : Cx) (a b d keep : Nat) (w : World) (hc : c.ok) :
    Calls Tryz.prog 69 #[.agg c.cells, .agg #[.int .u32 a, .int .u32 b, .int .u16 d], .int .i64 keep] w fun e w' => e = .returned (.agg (beginN c a b d keep).cells) ∧ Below w.heap.size w w' := by
  have ht := hc.turn
  obtain ⟨C, hC⟩ : ∃ C, C = c.cells := ⟨_, rfl⟩
  have e3 : C[3]? = some (.int .u8 c.turn) := by rw [hC]; rfl
  have e5 : C[5]? = some (.int .i64 c.rank) := by rw [hC]; rfl
  have e29 : C[29]? = some (.int .i64 c.kept) := by rw [hC]; rfl
  rw [← hC]
  clear hC hc
  by_cases h : 0 < c.kept
  · have hb : beginN c a b d keep = ⟨a, b, d, (c.turn + 1) % 4, 0, c.rank, keep, 0, 0, St.zero, St.zero, St.zero, St.zero, 0⟩ := by simp [beginN, h]
    rw [hb]
    clear hb
    go_enter Tryz.func69, Tryz.ntmps69
    go_wp2_with (refine store_whole (ty := 75) rfl rfl (third_alloc w _ _ _) infoCx rfl (Cx.cells_one ⟨a, b, d, (c.turn + 1) % 4, 0, c.rank, keep, 0, 0, St.zero, St.zero, St.zero, St.zero, 0⟩) ?_)
    refine ret_whole Tryz.results69 rfl (setRow_heap _ _ _ _ _ _ (third_alloc w _ _ _)) Tryz.underlying75 rfl infoCx rfl ⟨?_, below_setRow ((((Below.refl _ _).alloc (Nat.le_refl _) _).alloc (by simp) _).alloc (by simp; omega) _) (by omega) _⟩
    rfl
  · have h0 : c.kept = 0 := by omega
    rw [h0] at e29
    have hb : beginN c a b d keep = ⟨a, b, d, c.turn, 0, c.rank, keep, 0, 0, St.zero, St.zero, St.zero, St.zero, 0⟩ := by simp [beginN, h]
    rw [hb]
    clear hb
    go_enter Tryz.func69, Tryz.ntmps69
    go_wp2_with (refine store_whole (ty := 75) rfl rfl (third_alloc w _ _ _) infoCx rfl (Cx.cells_one ⟨a, b, d, c.turn, 0, c.rank, keep, 0, 0, St.zero, St.zero, St.zero, St.zero, 0⟩) ?_)
    refine ret_whole Tryz.results69 rfl (setRow_heap _ _ _ _ _ _ (third_alloc w _ _ _)) Tryz.underlying75 rfl infoCx rfl ⟨?_, below_setRow ((((Below.refl _ _).alloc (Nat.le_refl _) _).alloc (by simp) _).alloc (by simp; omega) _) (by omega) _⟩
    rfl

set_option maxRecDepth 100000 in
set_option maxHeartbeats 2000000 in
theorem cstride_any (c : Cx) (p : Pk) (w : World) (hc : c.ok) (hp : p.ok) :
    Calls Tryz.prog 71 #[.agg c.cells, .agg p.cells] w fun e w' => e = .returned (.int .u16 (strideN c p : Nat)) ∧ Below w.heap.size w w' := by
  obtain ⟨C, hC⟩ : ∃ C, C = c.cells := ⟨_, rfl⟩
  obtain ⟨P, hP⟩ : ∃ P, P = p.cells := ⟨_, rfl⟩
  have e9 : C[9]? = some (.int .u16 c.s0.seq) := by rw [hC]; rfl
  have e10 : C[10]? = some (.int .u16 c.s0.stride) := by rw [hC]; rfl
  have e11 : C[11]? = some (.int .u16 c.s0.offset) := by rw [hC]; rfl
  have e12 : C[12]? = some (.int .u32 c.s0.lag) := by rw [hC]; rfl
  have e13 : C[13]? = some (.int .u8 c.s0.flags) := by rw [hC]; rfl
  have e29 : C[29]? = some (.int .i64 c.kept) := by rw [hC]; rfl
  have p3 : P[3]? = some (.int .u16 p.seq) := by rw [hP]; rfl
  have p4 : P[4]? = some (.int .u32 p.time) := by rw [hP]; rfl
  have hs := hc.s0.seq
  have hs2 := hc.s0.stride
  have hp3 := hp.seq
  have hp4 := hp.time
  have HO := hide hc
  rw [← hC, ← hP]
  clear hC hP hc hp
  by_cases h : c.kept = 0
  · have hb : strideN c p = 0 := by simp [strideN, h]
    rw [hb]
    rw [h] at e29
    go_enter Tryz.func71, Tryz.ntmps71
    go_wp2
    go_ret
    exact ⟨rfl, ((Below.refl _ _).alloc (Nat.le_refl _) _).alloc (by simp) _⟩
  · by_cases h2 : (c.s0.seq + 1) % 65536 = p.seq
    · have hb : strideN c p = (p.time + 4294967296 - timeN c.s0) % 65536 := by simp [strideN, h, h2]
      have HB := hide hb
      clear hb
      have ht : (IntKind.u16.wrap (↑c.s0.seq + 1) != (↑p.seq : Int)) = false := by rw [IntKind.wrap_u16]; simp; omega
      have HW := hide h2
      clear h2
      go_enter Tryz.func71, Tryz.ntmps71
      go_wp2_with fail
      go_region_held3 (fun w' => w'.cell? ⟨w.heap.size + 1, 4, none⟩ = some (.int .u32 p.time) ∧ w'.cell? ⟨w.heap.size + 1 + 1, 0, none⟩ = some (.int .u16 c.s0.seq) ∧ w'.cell? ⟨w.heap.size + 1 + 1, 1, none⟩ = some (.int .u16 c.s0.stride) ∧ w'.cell? ⟨w.heap.size + 1 + 1, 2, none⟩ = some (.int .u16 c.s0.offset) ∧ w'.cell? ⟨w.heap.size + 1 + 1, 3, none⟩ = some (.int .u32 c.s0.lag) ∧ w'.cell? ⟨w.heap.size + 1 + 1, 4, none⟩ = some (.int .u8 c.s0.flags) ∧ Below w.heap.size w w' ∧ w.heap.size ≤ w'.heap.size)
        ((first | (refine ⟨(block_cell (second_alloc w _ _ _) 4).trans p4, block_cell (third_alloc w _ _ _) 0, block_cell (third_alloc w _ _ _) 1, block_cell (third_alloc w _ _ _) 2, block_cell (third_alloc w _ _ _) 3, block_cell (third_alloc w _ _ _) 4, ((((Below.refl _ _).alloc (Nat.le_refl _) _).alloc (by simp) _).alloc (by simp; omega) _).drew, by simp; omega⟩) | (go_split_ands; exact ⟨keep_cell (by assumption) hbel, keep_cell (by assumption) hbel, keep_cell (by assumption) hbel, keep_cell (by assumption) hbel, keep_cell (by assumption) hbel, keep_cell (by assumption) hbel, keep_below (by assumption) hbel (by assumption), Nat.le_trans (by assumption) hbel.size⟩)))
        ((go_at_call 101; refine (time_any c.s0 _ (unhide HO).s0).mono ?_; rintro e w1 ⟨rfl, hbel⟩))
      all_goals go_split_ands
      all_goals go_wp2
      all_goals go_ret
      all_goals refine ⟨ret_int ?_, by assumption⟩
      all_goals rw [unhide HB, IntKind.wrap_u16, IntKind.wrap_u32]
      all_goals (have := timeN_lt c.s0; omega)
    · have hb : strideN c p = c.s0.stride := by simp [strideN, h, h2]
      rw [hb]
      clear hb
      have ht : (IntKind.u16.wrap (↑c.s0.seq + 1) != (↑p.seq : Int)) = true := by rw [IntKind.wrap_u16]; simp; omega
      clear h2
      go_enter Tryz.func71, Tryz.ntmps71
      go_wp2
      go_ret
      exact ⟨rfl, (((Below.refl _ _).alloc (Nat.le_refl _) _).alloc (by simp) _).alloc (by simp; omega) _⟩

set_option maxRecDepth 100000 in
set_option maxHeartbeats 2000000 in
theorem cplace_any (c : Cx) (cid : Nat) (w : World) (h : cid < 8) :
    Calls Tryz.prog 76 #[.agg c.cells, .int .i64 cid] w fun e w' => e = .returned (.agg #[.int .u8 cid, .int .u8 c.turn]) ∧ Below w.heap.size w w' := by
  obtain ⟨C, hC⟩ : ∃ C, C = c.cells := ⟨_, rfl⟩
  have e3 : C[3]? = some (.int .u8 c.turn) := by rw [hC]; rfl
  have hw := wrap8 (show cid < 256 by omega)
  rw [← hC]
  clear hC
  go_enter Tryz.func76, Tryz.ntmps76
  go_wp2
  exact bodyPost_ret (v := .agg #[.int .u8 cid, .int .u8 c.turn]) (by simp [results, Tryz.results76, go_sem]) rfl ⟨rfl, ((Below.refl _ _).alloc (Nat.le_refl _) _).alloc (by simp) _⟩

/-- what an end tells of a context -/
def flowV (cid : Nat) (c : Cx) : Array Value := #[.int .u8 cid, .int .u8 c.turn, .int .u32 c.src, .int .u32 c.dst, .int .u16 c.port, .int .u16 c.s0.seq, .int .i64 c.count]
set_option maxRecDepth 100000 in
set_option maxHeartbeats 2000000 in
theorem cflow_any (c : Cx) (cid : Nat) (w : World) (h : cid < 8) :
    Calls Tryz.prog 85 #[.agg c.cells, .int .i64 cid] w fun e w' => e = .returned (.agg (flowV cid c)) ∧ Below w.heap.size w w' := by
  obtain ⟨C, hC⟩ : ∃ C, C = c.cells := ⟨_, rfl⟩
  have e0 : C[0]? = some (.int .u32 c.src) := by rw [hC]; rfl
  have e1 : C[1]? = some (.int .u32 c.dst) := by rw [hC]; rfl
  have e2 : C[2]? = some (.int .u16 c.port) := by rw [hC]; rfl
  have e3 : C[3]? = some (.int .u8 c.turn) := by rw [hC]; rfl
  have e4 : C[4]? = some (.int .i64 c.count) := by rw [hC]; rfl
  have e9 : C[9]? = some (.int .u16 c.s0.seq) := by rw [hC]; rfl
  have hw := wrap8 (show cid < 256 by omega)
  rw [← hC]
  clear hC
  go_enter Tryz.func85, Tryz.ntmps85
  go_wp2
  exact bodyPost_ret (v := .agg (flowV cid c)) (by simp [results, Tryz.results85, go_sem, flowV]) rfl ⟨rfl, ((Below.refl _ _).alloc (Nat.le_refl _) _).alloc (by simp) _⟩

set_option maxRecDepth 100000 in
set_option maxHeartbeats 2000000 in
theorem oneLess_any (n : Nat) (w : World) (h : n ≤ 4) :
    Calls Tryz.prog 103 #[.int .i64 n] w fun e w' => e = .returned (.int .i64 (n - 1 : Nat)) ∧ w' = w := by
  by_cases h0 : 0 < n
  · go_enter Tryz.func103, Tryz.ntmps103
    go_wp2
    go_ret
    exact ⟨ret_int (by omega), rfl⟩
  · have e : n = 0 := by omega
    subst e
    go_enter Tryz.func103, Tryz.ntmps103
    go_wp2
    go_ret
    exact ⟨rfl, rfl⟩

end Go.Proofs.YtgpojbgjfibblabGreat.texts
