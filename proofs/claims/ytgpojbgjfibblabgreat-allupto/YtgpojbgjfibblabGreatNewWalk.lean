/-
  The walks of the program's New of both ends (packages sender, receiver, gist), of a configuration.
  Conditions stand in each theorem.
-/
import Derived.Test.YtgpojbgjfibblabGreatRcvTake
import Derived.Test.YtgpojbgjfibblabGreatConfWalk
import Derived.Test.YtgpojbgjfibblabGreatPart12
import Derived.Deep.WholeRow
import Derived.Laws.Tables
namespace Go.Proofs.YtgpojbgjfibblabGreat.texts
open Go.RowKit
set_option linter.unusedVariables false
attribute [local go_sem ↓] Go.wp_at_zero Go.wp_at_succ

/-- a receiver without flows -/
def freshR (c : Nat) : Rcv := ⟨c, List.replicate 8 Rx.blank⟩
theorem freshR_at (c i : Nat) : (freshR c).at_ i = Rx.blank := by
  unfold freshR Rcv.at_
  simp only [List.getD_eq_getElem?_getD, List.getElem?_replicate]
  split <;> rfl
theorem freshR_ok {c : Nat} (h1 : 1 ≤ c) (h2 : c ≤ 8) : (freshR c).ok := ⟨h1, h2, by simp [freshR], fun d hd => by rw [List.eq_of_mem_replicate hd]; exact Rx.blank_ok⟩
/-- a sender of noughts -/
def Cx.none : Cx := ⟨0, 0, 0, 0, 0, 0, 0, 0, 0, St.zero, St.zero, St.zero, St.zero, 0⟩
def rankN (c k r j : Nat) : Snd := ⟨c, k, r, List.replicate j Cx.blank ++ List.replicate (8 - j) Cx.none⟩

theorem build_is {ops : Array Oper} {rest : List Oper} {dst : Option Tmp} {ty k : TypeId} {pos : String} {aft : Array Edge} {parts : Array (Nat × Operand)} {a : Act} {w : World} {Q : Exit → Act → World → Prop} {cells : Array Value}
    (hb : Tryz.prog.built ty (parts.map fun (i, x) => (i, a.eval x)).toList = some cells)
    (h : wpList Tryz.prog ops Q rest (a.put dst (.agg cells)) w) : wpList Tryz.prog ops Q (⟨dst, .build ty parts, k, pos, aft, none⟩ :: rest) a w :=
  wpList_build rfl ty parts rfl (by rw [hb]; rfl) (by rw [hb]; exact h)

theorem zeroRcv : (Tryz.prog.info? 87).map (fun i => (i.zero, i.size)) = some (some (.agg (freshR 0).cells), 89) := by kernel_rfl
theorem built_rcv (c : Nat) : Tryz.prog.built 87 [(0, .int .i64 c)] = some (freshR c).cells := by kernel_rfl
theorem built_grcv (c : Nat) : Tryz.prog.built 91 [(0, .agg (freshR c).cells)] = some (freshR c).cells := by kernel_rfl
theorem zeroSnd : (Tryz.prog.info? 78).map (fun i => (i.zero, i.size)) = some (some (.agg (rankN 0 0 0 0).cells), 243) := by kernel_rfl
theorem built_snd : Tryz.prog.built 78 [] = some (rankN 0 0 0 0).cells := by kernel_rfl
theorem built_gsnd (c k r : Nat) : Tryz.prog.built 82 [(0, .agg (freshN c k r).cells)] = some (freshN c k r).cells := by kernel_rfl

theorem cx_flat_one (l : List Cx) : (l.flatMap (fun c => c.cells.toList)).all (·.oneCell') = true := by
  rw [List.all_eq_true]
  intro v hv
  obtain ⟨c, _, h2⟩ := List.mem_flatMap.1 hv
  have := Array.all_eq_true_iff_forall_mem.1 (Cx.cells_one c) v (Array.mem_toList_iff.1 h2)
  exact this
theorem Snd.cells_one (m : Snd) : m.cells.all (·.oneCell') = true := by
  refine Array.all_eq_true_iff_forall_mem.2 (fun v hv => ?_)
  have hv' : v ∈ m.row := by simpa [Snd.cells] using hv
  unfold Snd.row at hv'
  rcases List.mem_append.1 hv' with h | h
  · simp only [List.mem_cons, List.not_mem_nil, or_false] at h
    rcases h with h | h | h <;> (subst h; rfl)
  · exact (List.all_eq_true.1 (cx_flat_one m.cs)) v h
theorem rx_flat_one (l : List Rx) : (l.flatMap (fun c => c.cells.toList)).all (·.oneCell') = true := by
  rw [List.all_eq_true]
  intro v hv
  obtain ⟨c, _, h2⟩ := List.mem_flatMap.1 hv
  have := Array.all_eq_true_iff_forall_mem.1 (Rx.cells_one c) v (Array.mem_toList_iff.1 h2)
  exact this
theorem Rcv.cells_one (m : Rcv) : m.cells.all (·.oneCell') = true := by
  refine Array.all_eq_true_iff_forall_mem.2 (fun v hv => ?_)
  have hv' : v ∈ m.row := by simpa [Rcv.cells] using hv
  unfold Rcv.row at hv'
  rcases List.mem_append.1 hv' with h | h
  · simp only [List.mem_cons, List.not_mem_nil, or_false] at h
    subst h; rfl
  · exact (List.all_eq_true.1 (rx_flat_one m.cs)) v h
theorem freshR_size (c : Nat) : (freshR c).cells.size = 89 := by rw [Rcv.cells_size]; simp [freshR]
theorem infoRcv : (Tryz.prog.info? 87).map (·.size) = some 89 := (zero_of_info zeroRcv).2
theorem infoSnd : (Tryz.prog.info? 78).map (·.size) = some 243 := (zero_of_info zeroSnd).2
theorem conf_yes {c k r : Nat} (h1 : 1 ≤ c) (h2 : c ≤ 8) (h3 : 1 ≤ k) (h4 : k ≤ 4) (h5 : 2 ≤ r) (h6 : r ≤ 100) : confB c k r = true := by
  unfold confB
  exact decide_eq_true (by omega)

/-- whole ends are loaded and stored by laws alone -/
def loadE (t : TypeId) (v : Value) : Sem Value := Instr.loadAt t v
def storeE (t : TypeId) (v u : Value) : Sem Unit := Instr.storeAt t v u
theorem loadE1 (v : Value) : Instr.loadAt 87 v = loadE 87 v := rfl
theorem loadE2 (v : Value) : Instr.loadAt 78 v = loadE 78 v := rfl
theorem storeE1 (v u : Value) : Instr.storeAt 87 v u = storeE 87 v u := rfl
theorem storeE2 (v u : Value) : Instr.storeAt 78 v u = storeE 78 v u := rfl
attribute [local go_sem ↓] loadE1 loadE2 storeE1 storeE2
theorem fresh_set (c : Nat) : (freshR 0).cells.setIfInBounds 0 (.int .i64 (c : Int)) = (freshR c).cells := by
  unfold freshR Rcv.cells Rcv.row
  simp only [List.setIfInBounds_toArray, List.cons_append, List.set_cons_zero]

set_option maxRecDepth 100000 in
set_option maxHeartbeats 2000000 in
theorem rnew_yes (c k r : Nat) (w : World) (h1 : 1 ≤ c) (h2 : c ≤ 8) (h3 : 1 ≤ k) (h4 : k ≤ 4) (h5 : 2 ≤ r) (h6 : r ≤ 100) :
    Calls Tryz.prog 21 #[.agg #[.int .i64 c, .int .i64 k, .int .i64 r]] w fun e w' => e = .returned (.tuple #[.agg (freshR c).cells, .int .i64 0]) ∧ Below w.heap.size w w' := by
  have hv := conf_yes h1 h2 h3 h4 h5 h6
  obtain ⟨Z, hZ⟩ : ∃ Z, Z = (freshR 0).cells := ⟨_, rfl⟩
  have zv : ∀ w, (zeroValue 87).run Tryz.prog w = .ok (.agg Z) w := by rw [hZ]; exact (zero_of_info zeroRcv).1
  obtain ⟨R, hR⟩ : ∃ R, R = (freshR c).cells := ⟨_, rfl⟩
  rw [← hR]
  have HV := hide (show ∀ w : World, Calls Tryz.prog 41 #[.agg #[.int .i64 (c : Int), .int .i64 (k : Int), .int .i64 (r : Int)]] w fun e w' => e = .returned (.bool true) ∧ Below w.heap.size w w' by
    intro w; have := valid_any c k r w; rw [hv] at this; exact this)
  have HZ := hide (show ∀ o : Obj, ((w.alloc o).alloc (.cells Z 87)).heap[w.heap.size + 1]? = some (.cells Z 87 (0, 0)) from fun o => by
    have := heap_alloc_new (w.alloc o) (.cells Z 87)
    simpa using this)
  have HB := hide (show Tryz.prog.built 87 [(0, .int .i64 (c : Int))] = some R by rw [hR]; exact built_rcv c)
  have hset : Z.setIfInBounds 0 (.int .i64 (c : Int)) = R := by rw [hZ, hR]; exact fresh_set c
  have hz0 : ¬ Z = #[] := by
    intro e
    have h89 := freshR_size 0
    rw [← hZ, e] at h89
    simp at h89
  have RI := hide (show (Tryz.prog.info? 87).map (·.size) = some R.size by rw [hR, freshR_size]; exact infoRcv)
  have RS := hide (show Z.size = R.size by rw [hZ, hR, freshR_size, freshR_size])
  have RO := hide (show R.all (·.oneCell') = true by rw [hR]; exact Rcv.cells_one _)
  clear hv hZ hR h1 h2 h3 h4 h5 h6
  go_enter Tryz.func21, Tryz.ntmps21
  go_wp2_with (first
    | (go_at_call 41; refine (unhide HV _).mono ?_; rintro e w1 ⟨rfl, hb1⟩; have c0 : w1.cell? ⟨w.heap.size, 0, none⟩ = some (.int .i64 (c : Int)) := keep_cell (by simp) hb1; have G := hide (block_keep (unhide HZ _) hb1); have W := hide (grew_call (((Below.refl _ _).alloc (Nat.le_refl _) _).alloc (by simp) _) hb1); clear hb1)
    | (refine build_is (ty := 87) (unhide HB) ?_)
    | (refine store_whole (ty := 87) rfl rfl (unhide G) (unhide RI) (unhide RS) (unhide RO) ?_))
  exact ret_whole2 (cs := R) Tryz.results21 rfl (setRow_heap _ _ _ _ _ _ (unhide G)) Tryz.underlying87 rfl (unhide RI) rfl ⟨rfl, below_setRow (unhide W) (by omega) _⟩

set_option maxRecDepth 100000 in
set_option maxHeartbeats 2000000 in
theorem gnewR_yes (c k r : Nat) (w : World) (h1 : 1 ≤ c) (h2 : c ≤ 8) (h3 : 1 ≤ k) (h4 : k ≤ 4) (h5 : 2 ≤ r) (h6 : r ≤ 100) :
    Calls Tryz.prog 11 #[.agg #[.int .i64 c, .int .i64 k, .int .i64 r]] w fun e w' => ∃ g, e = .returned (.tuple #[.pointer (some ⟨g, 0, none⟩), .int .i64 0]) ∧ w.heap.size ≤ g ∧ RcvAt w' g (freshR c) ∧ Below w.heap.size w w' := by
  obtain ⟨Z, hZ⟩ : ∃ Z, Z = (freshR 0).cells := ⟨_, rfl⟩
  have zv : ∀ w, (zeroValue 87).run Tryz.prog w = .ok (.agg Z) w := by rw [hZ]; exact (zero_of_info zeroRcv).1
  obtain ⟨R, hR⟩ : ∃ R, R = (freshR c).cells := ⟨_, rfl⟩
  have HV := hide (show ∀ w : World, Calls Tryz.prog 21 #[.agg #[.int .i64 (c : Int), .int .i64 (k : Int), .int .i64 (r : Int)]] w fun e w' => e = .returned (.tuple #[.agg R, .int .i64 0]) ∧ Below w.heap.size w w' by
    intro w; rw [hR]; exact rnew_yes c k r w h1 h2 h3 h4 h5 h6)
  have HB := hide (show Tryz.prog.built 91 [(0, .agg R)] = some R by rw [hR]; exact built_grcv c)
  have RI := hide (show (Tryz.prog.info? 87).map (·.size) = some R.size by rw [hR, freshR_size]; exact infoRcv)
  have RS := hide (show Z.size = R.size by rw [hZ, hR, freshR_size, freshR_size])
  have RO := hide (show R.all (·.oneCell') = true by rw [hR]; exact Rcv.cells_one _)
  have hR89 : R.size = 89 := by rw [hR]; exact freshR_size c
  have hfold : Array.foldl (fun (cs : Array Value) (x : Value × Nat) => cs.setIfInBounds x.snd x.fst) Tryz.zeroCells91 R.zipIdx 0 89 = R := by rw [hR]; kernel_rfl
  have HR := hide hR
  clear hZ hR h1 h2 h3 h4 h5 h6
  go_enter Tryz.func11, Tryz.ntmps11
  go_wp2_with (first
    | (go_at_call 21; refine (unhide HV _).mono ?_; rintro e w1 ⟨rfl, hb1⟩; have W := hide (grew_call ((Below.refl _ _).alloc (Nat.le_refl _) _) hb1); clear hb1)
    | (refine store_new (ty := 87) (old := Z) rfl rfl rfl (unhide RI) (unhide RS) (unhide RO) ?_)
    | (refine load_whole (ty := 87) rfl (heap_alloc_new w1 _) Tryz.underlying87 rfl (unhide RI) ?_)
    | (refine build_is (ty := 91) (unhide HB) ?_))
  go_ret2
  refine ⟨_, rfl, ?_, ?_, grew_alloc (grew_alloc (unhide W) _) _⟩
  · have := (unhide W).size
    simp
    omega
  · have := heap_alloc_new (w1.alloc (.cells R 87)) (.cells R 91)
    rw [RcvAt, ← unhide HR]
    simpa using this

end Go.Proofs.YtgpojbgjfibblabGreat.texts
