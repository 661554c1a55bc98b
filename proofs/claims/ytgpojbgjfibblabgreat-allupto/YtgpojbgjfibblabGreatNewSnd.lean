/-
  The walks of the program's NewSender (packages sender and gist), of a configuration.
  Conditions stand in each theorem.
-/
import Derived.Test.YtgpojbgjfibblabGreatNewWalk
namespace Go.Proofs.YtgpojbgjfibblabGreat.texts
open Go.RowKit
set_option linter.unusedVariables false
attribute [local go_sem ↓] Go.wp_at_zero Go.wp_at_succ
attribute [local go_sem ↓] loadE1 loadE2 storeE1 storeE2

theorem rankN_len (c k r j : Nat) (hj : j ≤ 8) : (rankN c k r j).cs.length = 8 := by simp [rankN]; omega
theorem rankN_size (c k r j : Nat) (hj : j ≤ 8) : (rankN c k r j).cells.size = 243 := by rw [Snd.cells_size, rankN_len _ _ _ _ hj]
theorem rankN_at (c k r j : Nat) (hj : j < 8) : (rankN c k r j).at_ j = Cx.none := by
  unfold rankN Snd.at_
  simp only [List.getD_eq_getElem?_getD]
  rw [List.getElem?_append_right (by simp), List.length_replicate, Nat.sub_self, List.getElem?_replicate, if_pos (by omega)]
  rfl
theorem rankN_succ (c k r j : Nat) (hj : j < 8) : (rankN c k r j).set j Cx.blank = rankN c k r (j + 1) := by
  unfold rankN Snd.set
  simp only
  congr 1
  rw [List.set_append_right _ _ (by simp), List.length_replicate, Nat.sub_self]
  obtain ⟨n, hn⟩ : ∃ n, 8 - j = n + 1 := ⟨8 - j - 1, by omega⟩
  rw [hn, show 8 - (j + 1) = n by omega, List.replicate_succ, List.set_cons_zero, List.replicate_succ']
  simp
theorem rankN_all (c k r : Nat) : rankN c k r 8 = freshN c k r := by unfold rankN freshN; simp
theorem rankN_conf (c k r : Nat) : (((rankN 0 0 0 0).cells.setIfInBounds 0 (.int .i64 (c : Int))).setIfInBounds 1 (.int .i64 (k : Int))).setIfInBounds 2 (.int .i64 (r : Int)) = (rankN c k r 0).cells := by
  unfold rankN Snd.cells Snd.row
  simp only [List.setIfInBounds_toArray, List.cons_append, List.nil_append, List.set_cons_zero, List.set_cons_succ]

/-- the sender that comes about, and the answer -/
structure InN (w : World) (m : Snd) (Z : Array Value) (w1 : World) : Prop where
  two : w1.heap[w.heap.size + 1]? = some (.cells Z 78 (0, 0))
  three : w1.heap[w.heap.size + 1 + 1]? = some (.cells m.cells 78 (0, 0))
  below : Below w.heap.size w w1
theorem InN.call {w w1 w2 : World} {m : Snd} {Z : Array Value} (h : InN w m Z w1) (hb : Below w1.heap.size w1 w2) : InN w m Z w2 :=
  ⟨block_keep h.two hb, block_keep h.three hb, keep_below h.below hb (by have := block_lt h.two; omega)⟩
theorem InN.c0 {w w1 : World} {m : Snd} {Z : Array Value} (h : InN w m Z w1) : w1.cell? ⟨w.heap.size + 1 + 1, 0, none⟩ = some (.int .i64 m.cids) := by rw [block_cell h.three, Snd.get0 m 0 (by omega)]; rfl
theorem InN.c1 {w w1 : World} {m : Snd} {Z : Array Value} (h : InN w m Z w1) : w1.cell? ⟨w.heap.size + 1 + 1, 1, none⟩ = some (.int .i64 m.keep) := by rw [block_cell h.three, Snd.get0 m 1 (by omega)]; rfl
theorem InN.c2 {w w1 : World} {m : Snd} {Z : Array Value} (h : InN w m Z w1) : w1.cell? ⟨w.heap.size + 1 + 1, 2, none⟩ = some (.int .i64 m.refresh) := by rw [block_cell h.three, Snd.get0 m 2 (by omega)]; rfl
theorem InN.cell {w w1 : World} {m m' : Snd} {Z : Array Value} (h : InN w m Z w1) (j : Nat) (v : Value) (hm : m.cells.setIfInBounds j v = m'.cells) : InN w m' Z (w1.setCell ⟨w.heap.size + 1 + 1, j, none⟩ v) := by
  have n1 : w.heap.size + 1 ≠ w.heap.size + 1 + 1 := by omega
  refine ⟨by rw [Below.heap_setCell _ _ _ _ (by exact n1)]; exact h.two, ?_, h.below.setCell (by show w.heap.size ≤ w.heap.size + 1 + 1; omega) _⟩
  rw [heap_setCell_same w1 _ j _ _ v h.three, hm]

set_option maxRecDepth 100000 in
set_option maxHeartbeats 4000000 in
theorem snew_yes (c k r : Nat) (w : World) (h1 : 1 ≤ c) (h2 : c ≤ 8) (h3 : 1 ≤ k) (h4 : k ≤ 4) (h5 : 2 ≤ r) (h6 : r ≤ 100) :
    Calls Tryz.prog 20 #[.agg #[.int .i64 c, .int .i64 k, .int .i64 r]] w fun e w' => e = .returned (.tuple #[.agg (freshN c k r).cells, .int .i64 0]) ∧ Below w.heap.size w w' := by
  have hv := conf_yes h1 h2 h3 h4 h5 h6
  obtain ⟨Z, hZ⟩ : ∃ Z, Z = (rankN 0 0 0 0).cells := ⟨_, rfl⟩
  have zv : ∀ w, (zeroValue 78).run Tryz.prog w = .ok (.agg Z) w := by rw [hZ]; exact (zero_of_info zeroSnd).1
  have HV := hide (show ∀ w : World, Calls Tryz.prog 41 #[.agg #[.int .i64 (c : Int), .int .i64 (k : Int), .int .i64 (r : Int)]] w fun e w' => e = .returned (.bool true) ∧ Below w.heap.size w w' by
    intro w; have := valid_any c k r w; rw [hv] at this; exact this)
  have ZI := hide (show (Tryz.prog.info? 78).map (·.size) = some Z.size by rw [hZ, rankN_size _ _ _ _ (by omega)]; exact infoSnd)
  have ZO := hide (show Z.all (·.oneCell') = true by rw [hZ]; exact Snd.cells_one _)
  have HN := hide (show ∀ o : Obj, InN w (rankN 0 0 0 0) Z (((w.alloc o).alloc (.cells Z 78)).alloc (.cells Z 78)) from fun o => ⟨second_alloc w _ _ _, by rw [hZ]; exact third_alloc w _ _ _, (((Below.refl _ _).alloc (Nat.le_refl _) _).alloc (by simp) _).alloc (by simp; omega) _⟩)
  have HZ := hide hZ
  clear hv hZ h1 h2 h3 h4 h5 h6
  go_enter Tryz.func20, Tryz.ntmps20
  go_upto_region 5 with (first
    | (go_at_call 41; refine (unhide HV _).mono ?_; rintro e w1 ⟨rfl, hb1⟩; have G1 := block_keep (block_alloc (block_alloc (heap_alloc_new w (.cells #[.int .i64 (c : Int), .int .i64 (k : Int), .int .i64 (r : Int)] 23)) _) _) hb1; have c0 : w1.cell? ⟨w.heap.size, 0, none⟩ = some (.int .i64 (c : Int)) := block_cell G1 0; have c1 : w1.cell? ⟨w.heap.size, 1, none⟩ = some (.int .i64 (k : Int)) := block_cell G1 1; have c2 : w1.cell? ⟨w.heap.size, 2, none⟩ = some (.int .i64 (r : Int)) := block_cell G1 2; clear G1; have K := (unhide HN _).call hb1; have d0 := K.c0; have d1 := K.c1; have d2 := K.c2; have f0 := block_free K.three 0; have f1 := block_free K.three 1; have f2 := block_free K.three 2; have HK := hide K; clear K hb1)
    | (refine store_new (ty := 78) (old := Z) (g := w.heap.size + 1 + 1) rfl rfl (by simp) (unhide ZI) rfl (unhide ZO) ?_))
  have K0 : InN w (rankN c k r 0) Z (((w1.setCell ⟨w.heap.size + 1 + 1, 0, none⟩ (.int .i64 (c : Int))).setCell ⟨w.heap.size + 1 + 1, 1, none⟩ (.int .i64 (k : Int))).setCell ⟨w.heap.size + 1 + 1, 2, none⟩ (.int .i64 (r : Int))) := by
    have n1 : w.heap.size + 1 ≠ w.heap.size + 1 + 1 := by omega
    refine ⟨by rw [Below.heap_setCell _ _ _ _ (by exact n1), Below.heap_setCell _ _ _ _ (by exact n1), Below.heap_setCell _ _ _ _ (by exact n1)]; exact (unhide HK).two, ?_, (((unhide HK).below.setCell (by show w.heap.size ≤ w.heap.size + 1 + 1; omega) _).setCell (by show w.heap.size ≤ w.heap.size + 1 + 1; omega) _).setCell (by show w.heap.size ≤ w.heap.size + 1 + 1; omega) _⟩
    have e0 := heap_setCell_same w1 _ 0 _ _ (.int .i64 (c : Int)) (unhide HK).three
    have e1 := heap_setCell_same _ _ 1 _ _ (.int .i64 (k : Int)) e0
    have e2 := heap_setCell_same _ _ 2 _ _ (.int .i64 (r : Int)) e1
    rw [e2, rankN_conf]
  have HK0 := hide K0
  clear K0 HK c0 c1 c2 d0 d1 d2 f0 f1 f2
  generalize ((w1.setCell ⟨w.heap.size + 1 + 1, 0, none⟩ (.int .i64 (c : Int))).setCell ⟨w.heap.size + 1 + 1, 1, none⟩ (.int .i64 (k : Int))).setCell ⟨w.heap.size + 1 + 1, 2, none⟩ (.int .i64 (r : Int)) = w2 at HK0 ⊢
  go_wp2_with fail
  go_loopw [5] (fun i wr => ∃ j : Nat, j ≤ 8 ∧ i = .int .i64 j ∧ InN w (rankN c k r j) Z wr) (fun i _ => 8 - (intOf i).toNat)
  case atStart => exact ⟨0, by omega, rfl, unhide HK0⟩
  case round =>
    obtain ⟨j, hj, rfl, K⟩ := hrel
    clear HK0 HN HV
    by_cases hlt : j < 8
    · have i0 : (0 : Int) ≤ (j : Int) := by omega
      have i1 : (j : Int) < 8 := by omega
      have k5 : wr.cell? ⟨w.heap.size + 1 + 1, 3 + j * 30 + 5, none⟩ = some (.int .i64 0) := by
        rw [block_cell K.three, Nat.mul_comm j 30, Snd.get _ j 5 (by rw [rankN_len _ _ _ _ hj]; omega) (by omega), rankN_at _ _ _ _ hlt]
        rfl
      have f5 := block_free K.three (3 + j * 30 + 5)
      have K2 := hide (K.cell (m' := rankN c k r (j + 1)) (3 + j * 30 + 5) (.int .i64 8) (by
        rw [Nat.mul_comm j 30, Snd.put1 (rankN c k r j) j 5 Cx.blank (.int .i64 8) (by rw [rankN_len _ _ _ _ hj]; omega) (by omega) (by rw [rankN_at _ _ _ _ hlt]; rfl), rankN_succ _ _ _ _ hlt]))
      clear K
      go_wp2
      go_roundw
      case rel => exact ⟨j + 1, by omega, by go_num, unhide K2⟩
      case measure => simp [intOf]; omega
    · have e : j = 8 := by omega
      subst e
      rw [rankN_all] at K
      obtain ⟨R, hR⟩ : ∃ R, R = (freshN c k r).cells := ⟨_, rfl⟩
      have HR := hide hR
      have L := K.three
      rw [← hR] at L
      have hs : R.size = 243 := by rw [hR, ← rankN_all]; exact rankN_size _ _ _ _ (by omega)
      have hsZ : Z.size = 243 := by rw [unhide HZ]; exact rankN_size _ _ _ _ (by omega)
      have RI := hide (show (Tryz.prog.info? 78).map (·.size) = some R.size by rw [hs]; exact infoSnd)
      have RS := hide (show Z.size = R.size by rw [hs, hsZ])
      have RO := hide (show R.all (·.oneCell') = true by rw [hR]; exact Snd.cells_one _)
      have HL := hide L
      have HK := hide K
      clear K L hs hsZ hR
      go_wp2_with (first
        | (refine load_whole (ty := 78) rfl (unhide HL) Tryz.underlying78 rfl (unhide RI) ?_)
        | (refine store_whole (ty := 78) rfl rfl (unhide HK).two (unhide RI) (unhide RS) (unhide RO) ?_))
      exact ret_whole2 (cs := R) Tryz.results20 rfl (setRow_heap _ _ _ _ _ _ (unhide HK).two) Tryz.underlying78 rfl (unhide RI) rfl ⟨by rw [unhide HR]; rfl, below_setRow (unhide HK).below (by omega) _⟩

theorem freshN_size (c k r : Nat) : (freshN c k r).cells.size = 243 := by rw [← rankN_all]; exact rankN_size _ _ _ _ (by omega)

set_option maxRecDepth 100000 in
set_option maxHeartbeats 2000000 in
theorem gnewS_yes (c k r : Nat) (w : World) (h1 : 1 ≤ c) (h2 : c ≤ 8) (h3 : 1 ≤ k) (h4 : k ≤ 4) (h5 : 2 ≤ r) (h6 : r ≤ 100) :
    Calls Tryz.prog 10 #[.agg #[.int .i64 c, .int .i64 k, .int .i64 r]] w fun e w' => ∃ g, e = .returned (.tuple #[.pointer (some ⟨g, 0, none⟩), .int .i64 0]) ∧ w.heap.size ≤ g ∧ SndAt w' g (freshN c k r) ∧ Below w.heap.size w w' := by
  obtain ⟨Z, hZ⟩ : ∃ Z, Z = (rankN 0 0 0 0).cells := ⟨_, rfl⟩
  have zv : ∀ w, (zeroValue 78).run Tryz.prog w = .ok (.agg Z) w := by rw [hZ]; exact (zero_of_info zeroSnd).1
  obtain ⟨R, hR⟩ : ∃ R, R = (freshN c k r).cells := ⟨_, rfl⟩
  have HV := hide (show ∀ w : World, Calls Tryz.prog 20 #[.agg #[.int .i64 (c : Int), .int .i64 (k : Int), .int .i64 (r : Int)]] w fun e w' => e = .returned (.tuple #[.agg R, .int .i64 0]) ∧ Below w.heap.size w w' by
    intro w; rw [hR]; exact snew_yes c k r w h1 h2 h3 h4 h5 h6)
  have HB := hide (show Tryz.prog.built 82 [(0, .agg R)] = some R by rw [hR]; exact built_gsnd c k r)
  have RI := hide (show (Tryz.prog.info? 78).map (·.size) = some R.size by rw [hR, freshN_size]; exact infoSnd)
  have RS := hide (show Z.size = R.size by rw [hZ, hR, freshN_size, rankN_size _ _ _ _ (by omega)])
  have RO := hide (show R.all (·.oneCell') = true by rw [hR]; exact Snd.cells_one _)
  have hR89 : R.size = 243 := by rw [hR]; exact freshN_size c k r
  have hfold : Array.foldl (fun (cs : Array Value) (x : Value × Nat) => cs.setIfInBounds x.snd x.fst) Tryz.zeroCells82 R.zipIdx 0 243 = R := by rw [hR]; kernel_rfl
  have HR := hide hR
  clear hZ hR h1 h2 h3 h4 h5 h6
  go_enter Tryz.func10, Tryz.ntmps10
  go_wp2_with (first
    | (go_at_call 20; refine (unhide HV _).mono ?_; rintro e w1 ⟨rfl, hb1⟩; have W := hide (grew_call ((Below.refl _ _).alloc (Nat.le_refl _) _) hb1); clear hb1)
    | (refine store_new (ty := 78) (old := Z) rfl rfl rfl (unhide RI) (unhide RS) (unhide RO) ?_)
    | (refine load_whole (ty := 78) rfl (heap_alloc_new w1 _) Tryz.underlying78 rfl (unhide RI) ?_)
    | (refine build_is (ty := 82) (unhide HB) ?_))
  go_ret2
  refine ⟨_, rfl, ?_, ?_, grew_alloc (grew_alloc (unhide W) _) _⟩
  · have := (unhide W).size
    simp
    omega
  · have := heap_alloc_new (w1.alloc (.cells R 78)) (.cells R 82)
    rw [SndAt, ← unhide HR]
    simpa using this

end Go.Proofs.YtgpojbgjfibblabGreat.texts
