/-
  The walk of the document's made (package gistref): short and tiny frames.
  Conditions stand in each theorem.
-/
import Derived.Test.YtgpojbgjfibblabGreatRefMade
namespace Go.Proofs.YtgpojbgjfibblabGreat.texts
open Go.RowKit
set_option linter.unusedVariables false
attribute [local go_sem ↓] Go.wp_at_zero Go.wp_at_succ
attribute [local go_sem] bs_size be_length bs_append List.length_append bs_extract bs_list

/-- the load of a state, in the midst of a block -/
def rsOf (w : World) (g o : Nat) : Array Value := match w.heap[g]? with | some (.cells c _ _) => ((c.toList.drop o).take 5).toArray | _ => #[]
def RsMid (w : World) (g o : Nat) : Prop := ∃ c t fr, w.heap[g]? = some (.cells c t fr) ∧ o + 5 ≤ c.size
def loadRm (v : Value) : Sem Value := Instr.loadAt 128 v
theorem loadRm_eq (v : Value) : Instr.loadAt 128 v = loadRm v := rfl
theorem run_loadRm (w : World) (g o : Nat) (h : RsMid w g o) : (loadRm (.pointer (some ⟨g, o, none⟩))).run Tryz.prog w = .ok (.agg (rsOf w g o)) w := by
  obtain ⟨c, t, fr, h1, h2⟩ := h
  have := run_loadAt_mid (P := Tryz.prog) w g o 128 _ _ (World.rangeAt_of_block h1 o 5) Tryz.underlying128 rfl (by rw [infoRs]; simp; omega)
  simpa [rsOf, h1, loadRm] using this
theorem rsOf_whole {w : World} {g : Nat} {S : Array Value} {t : TypeId} {fr : Nat × Nat} (h : w.heap[g]? = some (.cells S t fr)) (hS : S.size = 5) : RsMid w g 0 ∧ rsOf w g 0 = S := by
  refine ⟨⟨_, _, _, h, by omega⟩, ?_⟩
  unfold rsOf
  rw [h]
  simp only [List.drop_zero]
  rw [List.take_of_length_le (by rw [Array.length_toList]; omega)]
theorem rsOf_own {w : World} {B : Nat} {v : Value} {s : St} (h : w.ownsRow B 128 5 v 1 (scells [s])) : ∃ g cap, v = .slice (some ⟨g, 0, none⟩) 1 cap ∧ g < w.heap.size ∧ ∀ w' : World, w'.heap[g]? = w.heap[g]? → RsMid w' g 0 ∧ rsOf w' g 0 = s.flat := by
  rcases h.2 with ⟨_, h0⟩ | ⟨g, cap, cur, rfl, _, hh, hn, _, hs, ht⟩
  · omega
  · refine ⟨g, cap, rfl, block_lt hh, fun w' hw => ?_⟩
    rw [hh] at hw
    refine ⟨⟨_, _, _, hw, by omega⟩, ?_⟩
    unfold rsOf
    rw [hw]
    simp only [List.drop_zero]
    have e : cur.toList.take 5 = s.flat.toList := by
      rw [Nat.one_mul] at ht
      rw [ht]
      simp [scells]
    rw [e]
attribute [local go_sem ↓] storeFf_eq loadFf_eq loadRm_eq storeRs_eq
attribute [local go_sem] run_storeFf run_loadFf run_loadRm run_storeRs
theorem goodFf_lit (a b c d e f g : Int) (s : ByteArray) : GoodFf #[.int .u32 a, .int .u32 b, .int .u16 c, .int .i64 d, .int .i64 e, .int .i64 f, .int .i64 g, .string s] := ⟨rfl, Array.all_eq_true_iff_forall_mem.2 (fun v hv => by
  simp only [List.mem_toArray, List.mem_cons, List.not_mem_nil, or_false] at hv
  rcases hv with e | e | e | e | e | e | e | e <;> (subst e; rfl))⟩
attribute [local go_sem] goodFf_lit

/-- the state that a frame turns, in a block of its own -/
structure InMs (w : World) (X F N : Array Value) (gn : Nat) (S : Array Value) (w1 : World) : Prop where
  all : InM w X F N w1
  st : w1.heap[gn]? = some (.cells S 128 (0, 0))
  up : w.heap.size + 1 + 1 < gn
theorem InMs.call {w w1 w2 : World} {X F N : Array Value} {gn : Nat} {S : Array Value} (h : InMs w X F N gn S w1) (hb : Below w1.heap.size w1 w2) : InMs w X F N gn S w2 := ⟨h.all.call hb, block_keep h.st hb, h.up⟩
theorem InMs.drew {w w1 : World} {X F N : Array Value} {gn : Nat} {S : Array Value} (h : InMs w X F N gn S w1) : InMs w X F N gn S w1.drew := ⟨h.all.drew, h.st, h.up⟩
theorem InMs.cell {w w1 : World} {X F N : Array Value} {gn : Nat} {S S' : Array Value} (h : InMs w X F N gn S w1) (j : Nat) (v : Value) (hS : S.setIfInBounds j v = S') : InMs w X F N gn S' (w1.setCell ⟨gn, j, none⟩ v) := by
  rw [setCell_eq_setRow w1 gn j _ _ _ v h.st, hS]
  exact ⟨h.all.put h.up S', setRow_heap _ _ _ _ _ _ h.st, h.up⟩
theorem InMs.flat {w w1 : World} {X F N : Array Value} {gn : Nat} {S : Array Value} (h : InMs w X F N gn S w1) (P : Array Value) : InMn w X F N w1.heap.size P gn S (w1.alloc (.cells P 120)) :=
  have h1 := block_lt h.st
  have hb : Below w1.heap.size w1 (w1.alloc (.cells P 120)) := (Below.refl _ _).alloc (Nat.le_refl _) _
  ⟨⟨h.all.call hb, heap_alloc_new w1 _, block_lt h.all.three⟩, block_keep h.st hb, h.up, by omega⟩
theorem InMs.outC {w w1 : World} {X F N : Array Value} {gn : Nat} {S : Array Value} {x : Rc} {n : St} (h : InMs w X F N gn S w1) (x1 : X[1]? = some (.int .u32 (x.src : Int))) (x2 : X[2]? = some (.int .u32 (x.dst : Int))) (x3 : X[3]? = some (.int .u16 (x.port : Int))) (hS : S = n.flat) :
    w1.cell? ⟨w.heap.size, 1, none⟩ = some (.int .u32 (x.src : Int)) ∧ w1.cell? ⟨w.heap.size, 2, none⟩ = some (.int .u32 (x.dst : Int)) ∧ w1.cell? ⟨w.heap.size, 3, none⟩ = some (.int .u16 (x.port : Int)) ∧ w1.cell? ⟨gn, 0, none⟩ = some (.int .i64 (n.seq : Int)) ∧ w1.cell? ⟨gn, 1, none⟩ = some (.int .i64 (n.stride : Int)) ∧ w1.cell? ⟨gn, 2, none⟩ = some (.int .i64 (n.offset : Int)) ∧ w1.cell? ⟨gn, 3, none⟩ = some (.int .i64 (n.lag : Int)) ∧ w1.cell? ⟨gn, 4, none⟩ = some (.int .i64 (n.flags : Int)) ∧ InMs w X F N gn S w1 := by
  refine ⟨(block_cell h.all.one 1).trans x1, (block_cell h.all.one 2).trans x2, (block_cell h.all.one 3).trans x3, ?_, ?_, ?_, ?_, ?_, h⟩
  all_goals (rw [block_cell h.st, hS]; rfl)
theorem InMo.out2 {w w1 : World} {X P S : Array Value} {gf gn : Nat} (hP : P.size = 8) (hS : S.size = 5) (h : InMo w X gf P gn S w1) : FfIn w1 gf ∧ ffOf w1 gf = P ∧ RsMid w1 gn 0 ∧ rsOf w1 gn 0 = S ∧ FfTo w1 (w.heap.size + 1) ∧ RsIn w1 (w.heap.size + 1 + 1) ∧ InMo w X gf P gn S w1 := by
  obtain ⟨a, b, c, d, e, f, g⟩ := InMo.out hP hS h
  obtain ⟨F, N, h1, h2, h3⟩ := h
  obtain ⟨r1, r2⟩ := rsOf_whole h3.st hS
  exact ⟨a, b, r1, r2, e, f, g⟩
theorem chk_same2 (a b : Nat) : ((a : Int) == (b : Int)) = decide (a = b) := by
  rw [Bool.eq_iff_iff, beq_iff_eq, decide_eq_true_eq]
  omega
theorem InMn.putFl {w w1 : World} {X F N : Array Value} {gf gn : Nat} {P S : Array Value} (h : InMn w X F N gf P gn S w1) (C : Array Value) : InMn w X F N gf C gn S (w1.setRow gf C) :=
  ⟨⟨h.all.all.put h.all.up C, setRow_heap _ _ _ _ _ _ h.all.fl, h.all.up⟩, by rw [setRow_other _ _ _ _ h.ne]; exact h.st, h.up, h.ne⟩

set_option maxRecDepth 100000 in
set_option maxHeartbeats 8000000 in
theorem made_0 (x : Rc) (c : Rx) (l : List UInt8) (B0 : Nat) (w : World) (hc : c.ok) (hr : x.src = c.src ∧ x.dst = c.dst ∧ x.port = c.port) (hs : w.ownsRow B0 128 5 x.sv 1 (scells [c.st])) (h : Shape l) (hk : byteN l 0 / 64 = 0) (hl : l.length ≤ 1000) :
    Calls Tryz.prog 57 #[.agg x.cells, .string (bs l)] w fun e w' => MadeIs w c l e w' := by
  obtain ⟨m1, m2, m3⟩ := made_tiny (c := c) h hk
  have hle : 2 ≤ l.length := by have := h.least; rw [hk] at this; exact this
  have kd : (shapeF l).kind = 0 := (shapeF_parts l).1.trans hk
  have s0 : 0 < (bs l).size := by rw [bs_size]; omega
  have s1 : 1 < (bs l).size := by rw [bs_size]; omega
  have b0 := byte_at l 0 (by omega) s0
  have b1 := byte_at l 1 (by omega) s1
  have l0 := byteN_lt l 0
  have l1 := byteN_lt l 1
  obtain ⟨B, hB⟩ : ∃ B, B = byteN l 0 := ⟨_, rfl⟩
  obtain ⟨B1, hB1⟩ : ∃ B, B = byteN l 1 := ⟨_, rfl⟩
  rw [← hB] at b0 l0 hk
  rw [← hB1] at b1 l1 m1 m3
  have d1 : (B : Int).tdiv 64 = 0 := by rw [Int.tdiv_eq_ediv_of_nonneg (by omega)]; omega
  have d2 : (B : Int) / 64 = 0 := by omega
  obtain ⟨P, hP⟩ : ∃ P, P = madeN c (shapeF l) := ⟨_, rfl⟩
  obtain ⟨n, hn⟩ : ∃ n, n = (followN c (shapeF l)).st := ⟨_, rfl⟩
  have hPok : P.ok := by rw [hP]; exact madeN_ok hc (readF_ok (readF_shape h)).1
  have hnok : n.ok := by rw [hn]; exact (followN_ok hc (readF_ok (readF_shape h)).1).st
  rw [← hP, ← hn] at m2
  rw [← hn] at m1
  have HP := hide hP
  have HN := hide hn
  have HM1 := hide m1
  have HM2 := hide m2
  have HM3 := hide m3
  have HK := hide kd
  have HPO := hide hPok
  have HNO := hide hnok
  obtain ⟨X, hX⟩ : ∃ X, X = x.cells := ⟨_, rfl⟩
  obtain ⟨q, cap, hsv, hq, hqs⟩ := rsOf_own hs
  have x1 : X[1]? = some (.int .u32 (x.src : Int)) := by rw [hX]; rfl
  have x2 : X[2]? = some (.int .u32 (x.dst : Int)) := by rw [hX]; rfl
  have x3 : X[3]? = some (.int .u16 (x.port : Int)) := by rw [hX]; rfl
  have x5 : X[5]? = some (.slice (some ⟨q, 0, none⟩) 1 cap) := by rw [hX, ← hsv]; rfl
  rw [← hX]
  obtain ⟨ZF, hZF⟩ : ∃ ZF : Array Value, ZF = zeroP.flat := ⟨_, rfl⟩
  have zvF : ∀ w, (zeroValue 120).run Tryz.prog w = .ok (.agg ZF) w := by rw [hZF]; intro w; exact Tryz.zeroValue120 w
  obtain ⟨Z5, hZ5⟩ : ∃ Z5 : Array Value, Z5 = St.zero.flat := ⟨_, rfl⟩
  have zv5 : ∀ w, (zeroValue 128).run Tryz.prog w = .ok (.agg Z5) w := by rw [hZ5]; intro w; exact Tryz.zeroValue128 w
  have HZF := hide hZF
  have HZ5 := hide hZ5
  obtain ⟨FP, hFP⟩ : ∃ FP, FP = P.flat := ⟨_, rfl⟩
  obtain ⟨NP, hNP⟩ : ∃ NP, NP = n.flat := ⟨_, rfl⟩
  have gF : GoodFf FP := by rw [hFP]; exact Pk.goodFf P
  have gN : GoodRs NP := by rw [hNP]; exact St.goodRs n
  have HFP := hide hFP
  have HNP := hide hNP
  have hI0 := InM.start w X ZF Z5
  obtain ⟨S0, hS0⟩ : ∃ S0, S0 = c.st.flat := ⟨_, rfl⟩
  have g5 : (((w.alloc (.cells X 126)).alloc (.cells ZF 120)).alloc (.cells Z5 128)).heap[q]? = w.heap[q]? := hI0.below.block q hq
  have g1 := (hqs _ g5).1
  have g2 := (hqs _ g5).2
  rw [← hS0] at g2
  have gs5 := run_storeRs_new (((w.alloc (.cells X 126)).alloc (.cells ZF 120)).alloc (.cells Z5 128)) S0 Z5 (by rw [hS0]; rfl) (by rw [hS0]; exact St.flat_one _) (by rw [hZ5]; rfl)
  have eW : (((w.alloc (.cells X 126)).alloc (.cells ZF 120)).alloc (.cells Z5 128)).heap.size = w.heap.size + 1 + 1 + 1 := by simp
  rw [eW] at gs5
  have HI0 := hide hI0
  have HS0 := hide hS0
  have HRR := hide hr
  have HA : ∀ w : World, Calls Tryz.prog 92 #[.int .i64 0] w fun e w' => e = .returned (.int .i64 2) ∧ w' = w := fun w => ahead_any 0 w (by omega)
  have HA' := hide HA
  have HCK := hide hc
  have l00 := l0
  clear hX hZF hZ5 hP hn hPok hnok m1 m2 m3 kd hFP hNP hB hB1 HA hk h hc hI0 hS0 g5 hr hs hqs hsv
  go_enter Tryz.func57, Tryz.ntmps57
  go_upto_if 62 with ((go_at_call 92; refine (unhide HA' _).mono ?_; rintro e w1 ⟨rfl, h1⟩; have h1 := h1.symm; subst h1))
  have IS0 : InMs w X ZF Z5 (w.heap.size + 1 + 1 + 1) S0 ((((w.alloc (.cells X 126)).alloc (.cells ZF 120)).alloc (.cells Z5 128)).alloc (.cells S0 128)) := ⟨(unhide HI0).call ((Below.refl _ _).alloc (Nat.le_refl _) _), by have := heap_alloc_new (((w.alloc (.cells X 126)).alloc (.cells ZF 120)).alloc (.cells Z5 128)) (.cells S0 128); rw [eW] at this; exact this, by omega⟩
  clear HI0 eW gs5 g1 g2 zv5
  generalize (((w.alloc (.cells X 126)).alloc (.cells ZF 120)).alloc (.cells Z5 128)).alloc (.cells S0 128) = w2 at IS0 ⊢
  generalize w.heap.size + 1 + 1 + 1 = gn at IS0 ⊢
  obtain ⟨C, hC⟩ : ∃ C, C = (shapeF l).chk := ⟨_, rfl⟩
  have HC := hide hC
  have hC2 : C = B1 / 2 % 8 := by rw [hC]; exact unhide HM3
  have HIS := hide IS0
  clear hC
  go_cut [14, 15] (fun tv wv wx => tv = .int .i64 (C : Nat) ∧ wv = .int .i64 3 ∧ InMs w X ZF Z5 gn NP wx)
  case first =>
    have k0 : w2.cell? ⟨gn, 0, none⟩ = some (.int .i64 (c.st.seq : Int)) := by rw [block_cell IS0.st, unhide HS0]; rfl
    have k0d : w2.drew.cell? ⟨gn, 0, none⟩ = some (.int .i64 (c.st.seq : Int)) := k0
    have f0 := block_free IS0.st 0
    have f0d : w2.drew.frozen? ⟨gn, 0, none⟩ = false := f0
    obtain ⟨D, hD⟩ : ∃ D, D = B1 / 16 := ⟨_, rfl⟩
    obtain ⟨E, hE⟩ : ∃ E, E = B1 / 2 := ⟨_, rfl⟩
    have wB : IntKind.i64.wrap (B1 : Int) = (B1 : Int) := by rw [IntKind.wrap_i64]; omega
    have q1 : (B1 : Int).tdiv 16 = (D : Int) := by rw [hD, Int.tdiv_eq_ediv_of_nonneg (by omega)]; omega
    have w16 : IntKind.i64.wrap (D : Int) = (D : Int) := by rw [IntKind.wrap_i64]; omega
    have q2 : (B1 : Int) / 16 = (D : Int) := by rw [hD]; omega
    have q3 : (B1 : Int).tdiv 2 = (E : Int) := by rw [hE, Int.tdiv_eq_ediv_of_nonneg (by omega)]; omega
    have q3' : (B1 : Int) / 2 = (E : Int) := by rw [hE]; omega
    have q4 : (E : Int).tmod 8 = (C : Int) := by rw [hC2, hE, Int.tmod_eq_emod_of_nonneg (by omega)]; omega
    have q5 : (E : Int) % 8 = (C : Int) := by rw [hC2, hE]; omega
    have sq := (unhide HCK).st.seq
    have bb : (D : Int) < 16 := by omega
    have HLow := hide (show plain.lowV (Int.toNat 16) (Int.toNat 4) (c.st.seq : Int) 1 (D : Int) = (n.seq : Int) by
      rw [unhide HM1, hD]
      show _ = ((seqAfterN c.st.seq 4 (B1 / 16) : Nat) : Int)
      rw [seqAfterN_eq]
      exact (bits.lowR_good (wd := 16) (k := 4) (by decide) (by show ((B1 / 16 : Nat) : Int) < 16; omega)).symm)
    clear hD hE
    have HX := hide (fun w' (hw : InMs w X ZF Z5 gn S0 w') => hw.cell (S' := NP) 0 (.int .i64 (n.seq : Int)) (by rw [unhide HS0, unhide HNP, unhide HM1]; rfl))
    clear IS0 hC2
    go_wp2_with fail
    go_region_with ((go_at_call 96; refine (bits.rlow_any _ _ _ _ _ _ (by omega) (by omega) (by omega) (by omega) (by omega) (by omega) (by omega) (by omega) (by show _ < (16 : Int); omega)).mono ?_; rintro e w5 ⟨rfl, h5⟩; have h5 := h5.symm; subst h5; rw [unhide HLow]))
    all_goals
      have HI2 := hide (unhide HX _ (unhide HIS).drew)
      go_wp2_with fail
      go_meet
      case rel => exact ⟨rfl, rfl, unhide HI2⟩
  case rest =>
    obtain ⟨rfl, rfl, I3⟩ := hcut
    clear HIS IS0 hC2
    have HI3 := hide I3
    clear I3
    go_upto_region 23 with fail
    obtain ⟨n1, n2, n3, n4, n5⟩ := unhide HNO
    have hp1 : (0 : Int) ≤ (n.stride : Int) * (n.seq : Int) := Int.mul_nonneg (by omega) (by omega)
    have hp2 : (n.stride : Int) * (n.seq : Int) ≤ 4294836225 := by
      have : n.stride * n.seq ≤ 65535 * 65535 := Nat.mul_le_mul (by omega) (by omega)
      have e : ((n.stride * n.seq : Nat) : Int) = (n.stride : Int) * (n.seq : Int) := Int.natCast_mul _ _
      omega
    have v1 : IntKind.i64.wrap ((n.stride : Int) * (n.seq : Int)) = (n.stride : Int) * (n.seq : Int) := by rw [IntKind.wrap_i64]; omega
    have v2 : IntKind.i64.wrap ((n.lag : Int) + (n.stride : Int) * (n.seq : Int)) = (n.lag : Int) + (n.stride : Int) * (n.seq : Int) := by rw [IntKind.wrap_i64]; omega
    have v3 : IntKind.i64.wrap ((n.offset : Int) + (n.seq : Int)) = (n.offset : Int) + (n.seq : Int) := by rw [IntKind.wrap_i64]; omega
    have X32 := hide (show ((n.lag : Int) + (n.stride : Int) * (n.seq : Int)) % bits.pw (Int.toNat 32) = (timeN n : Int) by
      show ((n.lag : Int) + (n.stride : Int) * (n.seq : Int)) % 4294967296 = _
      unfold timeN
      rw [← Int.natCast_mul]
      omega)
    have X16 := hide (show ((n.offset : Int) + (n.seq : Int)) % bits.pw (Int.toNat 16) = (((n.offset + n.seq) % 65536 : Nat) : Int) by
      show ((n.offset : Int) + (n.seq : Int)) % 65536 = _
      omega)
    obtain ⟨ID, hID⟩ : ∃ ID : Nat, ID = (n.offset + n.seq) % 65536 := ⟨_, rfl⟩
    rw [← hID] at X16
    have HFL := hide (show FP = #[.int .u32 (x.src : Int), .int .u32 (x.dst : Int), .int .u16 (x.port : Int), .int .i64 (n.seq : Int), .int .i64 (timeN n : Int), .int .i64 (ID : Int), .int .i64 (n.flags : Int), .string (bs (l.drop 2))] by
      rw [unhide HFP, unhide HM2, hID, (unhide HRR).1, (unhide HRR).2.1, (unhide HRR).2.2]
      rfl)
    obtain ⟨TM, hTM⟩ : ∃ TM, TM = timeN n := ⟨_, rfl⟩
    rw [← hTM] at X32 HFL
    clear hID hTM
    go_cut [16] (fun v wx => ∃ gf, v = .pointer (some ⟨gf, 0, none⟩) ∧ InMn w X ZF Z5 gf FP gn NP wx)
    case first =>
      have gA : ∀ w : World, FfTo (w.alloc (.cells #[.int .u32 0, .int .u32 0, .int .u16 0, .int .i64 0, .int .i64 0, .int .i64 0, .int .i64 0, .string ⟨#[]⟩] 120)) w.heap.size := fun w => ⟨_, _, heap_alloc_new w _, rfl⟩
      have gAd : ∀ w : World, FfTo (w.alloc (.cells #[.int .u32 0, .int .u32 0, .int .u16 0, .int .i64 0, .int .i64 0, .int .i64 0, .int .i64 0, .string ⟨#[]⟩] 120)).drew w.heap.size := fun w => gA w
      clear zvF
      have HQ := hide (unhide HI3).drew
      go_region_held3 (fun w' => w'.cell? ⟨w.heap.size, 1, none⟩ = some (.int .u32 (x.src : Int)) ∧ w'.cell? ⟨w.heap.size, 2, none⟩ = some (.int .u32 (x.dst : Int)) ∧ w'.cell? ⟨w.heap.size, 3, none⟩ = some (.int .u16 (x.port : Int)) ∧ w'.cell? ⟨gn, 0, none⟩ = some (.int .i64 (n.seq : Int)) ∧ w'.cell? ⟨gn, 1, none⟩ = some (.int .i64 (n.stride : Int)) ∧ w'.cell? ⟨gn, 2, none⟩ = some (.int .i64 (n.offset : Int)) ∧ w'.cell? ⟨gn, 3, none⟩ = some (.int .i64 (n.lag : Int)) ∧ w'.cell? ⟨gn, 4, none⟩ = some (.int .i64 (n.flags : Int)) ∧ InMs w X ZF Z5 gn NP w')
        ((first
          | (exact (unhide HI3).drew.outC x1 x2 x3 (unhide HNP))
          | (exact (InMs.call (unhide HI3).drew ((Below.refl _ _).alloc (Nat.le_refl _) _)).outC x1 x2 x3 (unhide HNP))
          | (exact (⟨((InMs.flat (unhide HI3).drew _).putFl _).all.all, ((InMs.flat (unhide HI3).drew _).putFl _).st, (unhide HI3).up⟩ : InMs w X ZF Z5 gn NP _).outC x1 x2 x3 (unhide HNP))))
        ((go_at_call 78; refine (bits.mod_any _ _ _ (by omega) (by omega) (by omega) (by omega)).mono ?_; rintro e w5 ⟨rfl, h5⟩; have h5 := h5.symm; subst h5; first | rw [unhide X32] | rw [unhide X16]))
      all_goals go_split_ands
      all_goals
        have HF := hide ((InMs.flat (unhide HI3).drew #[.int .u32 0, .int .u32 0, .int .u16 0, .int .i64 0, .int .i64 0, .int .i64 0, .int .i64 0, .string ⟨#[]⟩]).putFl #[.int .u32 (x.src : Int), .int .u32 (x.dst : Int), .int .u16 (x.port : Int), .int .i64 (n.seq : Int), .int .i64 (TM : Int), .int .i64 (ID : Int), .int .i64 (n.flags : Int), .string (bs (l.drop 2))])
        go_wp2_with fail
        go_meet
        case rel => exact ⟨_, rfl, by rw [unhide HFL]; exact unhide HF⟩
    case rest =>
      obtain ⟨gf, rfl, I4⟩ := hcut
      have HI4 := hide I4
      clear I4 HI3
      go_upto_region 24 with fail
      obtain ⟨G, hG⟩ : ∃ G : Bool, G = decide (chk 3 P = C) := ⟨_, rfl⟩
      have HG := hide hG
      clear hG
      have hzF : ZF.size = 8 := by rw [unhide HZF]; rfl
      have hz5 : Z5.size = 5 := by rw [unhide HZ5]; rfl
      have HzF := hide hzF
      have Hz5 := hide hz5
      clear hzF hz5
      go_cut [6] (fun v wx => v = .bool G ∧ InM w X FP NP wx)
      case first =>
        have HQ := hide (unhide HI4).drew
        go_region_held3 (fun w' => FfIn w' gf ∧ ffOf w' gf = FP ∧ RsMid w' gn 0 ∧ rsOf w' gn 0 = NP ∧ FfTo w' (w.heap.size + 1) ∧ RsIn w' (w.heap.size + 1 + 1) ∧ InMo w X gf FP gn NP w')
          ((first
            | (exact InMo.out2 gF.1 gN.1 ⟨_, _, unhide HzF, unhide Hz5, (unhide HI4).drew⟩)
            | (exact InMo.out2 gF.1 gN.1 ⟨_, _, unhide HzF, unhide Hz5, unhide (by assumption : Hid (InMn w X ZF Z5 gf FP gn NP _))⟩)
            | (exact InMo.out2 gF.1 gN.1 ⟨_, _, gF.1, unhide Hz5, ((unhide (by assumption : Hid (InMn w X ZF Z5 gf FP gn NP _))).done FP NP).1⟩)
            | (exact InMo.out2 gF.1 gN.1 ⟨_, _, unhide HzF, gN.1, ((unhide (by assumption : Hid (InMn w X ZF Z5 gf FP gn NP _))).done FP NP).2⟩)
            | (exact InMo.out2 gF.1 gN.1 ⟨_, _, gF.1, gN.1, ((((unhide (by assumption : Hid (InMn w X ZF Z5 gf FP gn NP _))).done FP NP).1).done FP NP).2⟩)
            | (exact InMo.out2 gF.1 gN.1 ⟨_, _, gF.1, gN.1, ((((unhide (by assumption : Hid (InMn w X ZF Z5 gf FP gn NP _))).done FP NP).2).done FP NP).1⟩)))
          ((first
            | (go_at_call 82; rw [unhide HFP]; refine (header_any P _ (unhide HPO)).mono ?_; rintro e w7 ⟨rfl, hbel⟩; rw [← unhide HFP]; have HQ7 := hide (InMn.call (unhide (by assumption : Hid (InMn w X ZF Z5 gf FP gn NP _))) hbel))
            | (go_at_call 83; refine (rchk3 P _).mono ?_; rintro e w8 ⟨rfl, hbel⟩; have HQ8 := hide (InMn.call (unhide (by assumption : Hid (InMn w X ZF Z5 gf FP gn NP _))) hbel))))
        all_goals go_split_ands
        all_goals go_wp2_with fail
        all_goals go_meet
        all_goals (case rel => exact ⟨by rw [unhide HG, ← chk_same2 (chk 3 P) C], ((unhide (by assumption : Hid (InMn w X ZF Z5 gf FP gn NP w8))).all.all.putF FP).putN NP⟩)
      case rest =>
        obtain ⟨rfl, I5⟩ := hcut
        have HI5 := hide I5
        clear I5 HI4
        go_wp2_with fail
        exact ret_cells2 (c1 := FP) (c2 := NP) Tryz.results57 rfl rfl (unhide HI5).two (unhide HI5).three Tryz.underlying120 rfl (by rw [gF.1]; exact infoFf) Tryz.underlying128 rfl (by rw [gN.1]; exact infoRs) rfl ⟨by rw [← unhide HP, ← unhide HN, ← unhide HFP, ← unhide HNP, unhide HK, ← unhide HC]; show Ending.returned (.tuple #[.agg FP, .agg NP, .bool G]) = _; rw [unhide HG]; rfl, (unhide HI5).below⟩

set_option maxRecDepth 100000 in
set_option maxHeartbeats 8000000 in
theorem made_1 (x : Rc) (c : Rx) (l : List UInt8) (B0 : Nat) (w : World) (hc : c.ok) (hr : x.src = c.src ∧ x.dst = c.dst ∧ x.port = c.port) (hs : w.ownsRow B0 128 5 x.sv 1 (scells [c.st])) (h : Shape l) (hk : byteN l 0 / 64 = 1) (hl : l.length ≤ 1000) :
    Calls Tryz.prog 57 #[.agg x.cells, .string (bs l)] w fun e w' => MadeIs w c l e w' := by
  obtain ⟨m1, m2, m3⟩ := made_short (c := c) h hk
  have hle : 5 ≤ l.length := by have := h.least; rw [hk] at this; exact this
  have kd : (shapeF l).kind = 1 := (shapeF_parts l).1.trans hk
  have s0 : 0 < (bs l).size := by rw [bs_size]; omega
  have s1 : 1 < (bs l).size := by rw [bs_size]; omega
  have s2 : 2 < (bs l).size := by rw [bs_size]; omega
  have s3 : 3 < (bs l).size := by rw [bs_size]; omega
  have s4 : 4 < (bs l).size := by rw [bs_size]; omega
  have b0 := byte_at l 0 (by omega) s0
  have b1 := byte_at l 1 (by omega) s1
  have b2 := byte_at l 2 (by omega) s2
  have b3 := byte_at l 3 (by omega) s3
  have b4 := byte_at l 4 (by omega) s4
  have l0 := byteN_lt l 0
  have l1 := byteN_lt l 1
  have l2 := byteN_lt l 2
  have l3 := byteN_lt l 3
  have l4 := byteN_lt l 4
  obtain ⟨B, hB⟩ : ∃ B, B = byteN l 0 := ⟨_, rfl⟩
  obtain ⟨B1, hB1⟩ : ∃ B, B = byteN l 1 := ⟨_, rfl⟩
  obtain ⟨B2, hB2⟩ : ∃ B, B = byteN l 2 := ⟨_, rfl⟩
  obtain ⟨B3, hB3⟩ : ∃ B, B = byteN l 3 := ⟨_, rfl⟩
  obtain ⟨B4, hB4⟩ : ∃ B, B = byteN l 4 := ⟨_, rfl⟩
  rw [← hB] at b0 l0 hk
  rw [← hB1] at b1 l1 m1
  rw [← hB2] at b2 l2 m1
  rw [← hB3] at b3 l3 m1
  rw [← hB4] at b4 l4 m3
  have d1 : (B : Int).tdiv 64 = 1 := by rw [Int.tdiv_eq_ediv_of_nonneg (by omega)]; omega
  have d2 : (B : Int) / 64 = 1 := by omega
  obtain ⟨P, hP⟩ : ∃ P, P = madeN c (shapeF l) := ⟨_, rfl⟩
  obtain ⟨n, hn⟩ : ∃ n, n = (followN c (shapeF l)).st := ⟨_, rfl⟩
  have hPok : P.ok := by rw [hP]; exact madeN_ok hc (readF_ok (readF_shape h)).1
  have hnok : n.ok := by rw [hn]; exact (followN_ok hc (readF_ok (readF_shape h)).1).st
  rw [← hP, ← hn] at m2
  rw [← hn] at m1
  have HP := hide hP
  have HN := hide hn
  have HM1 := hide m1
  have HM2 := hide m2
  have HM3 := hide m3
  have HK := hide kd
  have HPO := hide hPok
  have HNO := hide hnok
  obtain ⟨X, hX⟩ : ∃ X, X = x.cells := ⟨_, rfl⟩
  obtain ⟨q, cap, hsv, hq, hqs⟩ := rsOf_own hs
  have x1 : X[1]? = some (.int .u32 (x.src : Int)) := by rw [hX]; rfl
  have x2 : X[2]? = some (.int .u32 (x.dst : Int)) := by rw [hX]; rfl
  have x3 : X[3]? = some (.int .u16 (x.port : Int)) := by rw [hX]; rfl
  have x5 : X[5]? = some (.slice (some ⟨q, 0, none⟩) 1 cap) := by rw [hX, ← hsv]; rfl
  rw [← hX]
  obtain ⟨ZF, hZF⟩ : ∃ ZF : Array Value, ZF = zeroP.flat := ⟨_, rfl⟩
  have zvF : ∀ w, (zeroValue 120).run Tryz.prog w = .ok (.agg ZF) w := by rw [hZF]; intro w; exact Tryz.zeroValue120 w
  obtain ⟨Z5, hZ5⟩ : ∃ Z5 : Array Value, Z5 = St.zero.flat := ⟨_, rfl⟩
  have zv5 : ∀ w, (zeroValue 128).run Tryz.prog w = .ok (.agg Z5) w := by rw [hZ5]; intro w; exact Tryz.zeroValue128 w
  have HZF := hide hZF
  have HZ5 := hide hZ5
  obtain ⟨FP, hFP⟩ : ∃ FP, FP = P.flat := ⟨_, rfl⟩
  obtain ⟨NP, hNP⟩ : ∃ NP, NP = n.flat := ⟨_, rfl⟩
  have gF : GoodFf FP := by rw [hFP]; exact Pk.goodFf P
  have gN : GoodRs NP := by rw [hNP]; exact St.goodRs n
  have HFP := hide hFP
  have HNP := hide hNP
  have hI0 := InM.start w X ZF Z5
  obtain ⟨S0, hS0⟩ : ∃ S0, S0 = c.st.flat := ⟨_, rfl⟩
  have g5 : (((w.alloc (.cells X 126)).alloc (.cells ZF 120)).alloc (.cells Z5 128)).heap[q]? = w.heap[q]? := hI0.below.block q hq
  have g1 := (hqs _ g5).1
  have g2 := (hqs _ g5).2
  rw [← hS0] at g2
  have gs5 := run_storeRs_new (((w.alloc (.cells X 126)).alloc (.cells ZF 120)).alloc (.cells Z5 128)) S0 Z5 (by rw [hS0]; rfl) (by rw [hS0]; exact St.flat_one _) (by rw [hZ5]; rfl)
  have eW : (((w.alloc (.cells X 126)).alloc (.cells ZF 120)).alloc (.cells Z5 128)).heap.size = w.heap.size + 1 + 1 + 1 := by simp
  rw [eW] at gs5
  have HI0 := hide hI0
  have HS0 := hide hS0
  have HRR := hide hr
  have HA : ∀ w : World, Calls Tryz.prog 92 #[.int .i64 1] w fun e w' => e = .returned (.int .i64 5) ∧ w' = w := fun w => ahead_any 1 w (by omega)
  have HA' := hide HA
  have HCK := hide hc
  have l00 := l0
  clear hX hZF hZ5 hP hn hPok hnok m1 m2 m3 kd hFP hNP hB hB1 hB2 hB3 hB4 HA hk h hc hI0 hS0 g5 hr hs hqs hsv
  go_enter Tryz.func57, Tryz.ntmps57
  go_upto_if 62 with ((go_at_call 92; refine (unhide HA' _).mono ?_; rintro e w1 ⟨rfl, h1⟩; have h1 := h1.symm; subst h1))
  have IS0 : InMs w X ZF Z5 (w.heap.size + 1 + 1 + 1) S0 ((((w.alloc (.cells X 126)).alloc (.cells ZF 120)).alloc (.cells Z5 128)).alloc (.cells S0 128)) := ⟨(unhide HI0).call ((Below.refl _ _).alloc (Nat.le_refl _) _), by have := heap_alloc_new (((w.alloc (.cells X 126)).alloc (.cells ZF 120)).alloc (.cells Z5 128)) (.cells S0 128); rw [eW] at this; exact this, by omega⟩
  clear HI0 eW gs5 g1 g2 zv5
  generalize (((w.alloc (.cells X 126)).alloc (.cells ZF 120)).alloc (.cells Z5 128)).alloc (.cells S0 128) = w2 at IS0 ⊢
  generalize w.heap.size + 1 + 1 + 1 = gn at IS0 ⊢
  obtain ⟨C, hC⟩ : ∃ C, C = (shapeF l).chk := ⟨_, rfl⟩
  have HC := hide hC
  have hC2 : C = B4 := by rw [hC]; exact unhide HM3
  have HIS := hide IS0
  clear hC
  go_cut [14, 15] (fun tv wv wx => tv = .int .i64 (C : Nat) ∧ wv = .int .i64 7 ∧ InMs w X ZF Z5 gn NP wx)
  case first =>
    have wB1 : IntKind.i64.wrap (B1 : Int) = (B1 : Int) := by rw [IntKind.wrap_i64]; omega
    have wB2 : IntKind.i64.wrap (B2 : Int) = (B2 : Int) := by rw [IntKind.wrap_i64]; omega
    have wB3 : IntKind.i64.wrap (B3 : Int) = (B3 : Int) := by rw [IntKind.wrap_i64]; omega
    have sq := (unhide HCK).st.seq
    have so := (unhide HCK).st.offset
    have sl := (unhide HCK).st.lag
    have HL1 := hide (show plain.lowV (Int.toNat 16) (Int.toNat 8) (c.st.seq : Int) 1 (B1 : Int) = (n.seq : Int) by
      rw [unhide HM1]
      show _ = ((seqAfterN c.st.seq 8 B1 : Nat) : Int)
      rw [seqAfterN_eq]
      exact (bits.lowR_good (wd := 16) (k := 8) (by decide) (by show (B1 : Int) < 256; omega)).symm)
    have HL2 := hide (show plain.lowV (Int.toNat 16) (Int.toNat 8) (c.st.offset : Int) 128 (B2 : Int) = (n.offset : Int) by
      rw [unhide HM1]
      show _ = (((bits.lowR 16 8 c.st.offset 128 B2).toNat : Nat) : Int)
      have h1 := lowR16_bd 8 c.st.offset 128 B2
      rw [Int.toNat_of_nonneg h1.1]
      exact (bits.lowR_good (wd := 16) (k := 8) (by decide) (by show (B2 : Int) < 256; omega)).symm)
    have HL3 := hide (show plain.lowV (Int.toNat 32) (Int.toNat 8) (c.st.lag : Int) 128 (B3 : Int) = (n.lag : Int) by
      rw [unhide HM1]
      show _ = (((bits.lowR 32 8 c.st.lag 128 B3).toNat : Nat) : Int)
      have h1 := lowR32_bd 8 c.st.lag 128 B3
      rw [Int.toNat_of_nonneg h1.1]
      exact (bits.lowR_good (wd := 32) (k := 8) (by decide) (by show (B3 : Int) < 256; omega)).symm)
    obtain ⟨S1, hS1⟩ : ∃ S1, S1 = St.flat ⟨n.seq, c.st.stride, c.st.offset, c.st.lag, c.st.flags⟩ := ⟨_, rfl⟩
    obtain ⟨S2, hS2⟩ : ∃ S2, S2 = St.flat ⟨n.seq, c.st.stride, n.offset, c.st.lag, c.st.flags⟩ := ⟨_, rfl⟩
    have HX1 := hide (fun w' (hw : InMs w X ZF Z5 gn S0 w') => hw.cell (S' := S1) 0 (.int .i64 (n.seq : Int)) (by rw [unhide HS0, hS1]; rfl))
    have HX2 := hide (fun w' (hw : InMs w X ZF Z5 gn S1 w') => hw.cell (S' := S2) 2 (.int .i64 (n.offset : Int)) (by rw [hS1, hS2]; rfl))
    have HX3 := hide (fun w' (hw : InMs w X ZF Z5 gn S2 w') => hw.cell (S' := NP) 3 (.int .i64 (n.lag : Int)) (by rw [hS2, unhide HNP, unhide HM1]; rfl))
    have HS1 := hide hS1
    have HS2 := hide hS2
    have k0 : w2.cell? ⟨gn, 0, none⟩ = some (.int .i64 (c.st.seq : Int)) := by rw [block_cell IS0.st, unhide HS0]; rfl
    have k0d : w2.drew.cell? ⟨gn, 0, none⟩ = some (.int .i64 (c.st.seq : Int)) := k0
    have f0 := block_free IS0.st 0
    have f0d : w2.drew.frozen? ⟨gn, 0, none⟩ = false := f0
    clear IS0 hS1 hS2
    go_upto_region 18 with fail
    go_cut [7] (fun v wx => v = .int .i64 1 ∧ InMs w X ZF Z5 gn S1 wx)
    case first =>
      go_region_with ((go_at_call 96; refine (bits.rlow_any _ _ _ _ _ _ (by omega) (by omega) (by omega) (by omega) (by omega) (by omega) (by omega) (by omega) (by show _ < (256 : Int); omega)).mono ?_; rintro e w5 ⟨rfl, h5⟩; have h5 := h5.symm; subst h5; rw [unhide HL1]))
      all_goals
        have HI2 := hide (unhide HX1 _ (unhide HIS).drew)
        go_wp2_with fail
        go_meet
        case rel => exact ⟨rfl, unhide HI2⟩
    case rest =>
      obtain ⟨rfl, IA⟩ := hcut
      clear k0 k0d f0 f0d
      have k0 : wc.cell? ⟨gn, 2, none⟩ = some (.int .i64 (c.st.offset : Int)) := by rw [block_cell IA.st, unhide HS1]; rfl
      have k0d : wc.drew.cell? ⟨gn, 2, none⟩ = some (.int .i64 (c.st.offset : Int)) := k0
      have f0 := block_free IA.st 2
      have f0d : wc.drew.frozen? ⟨gn, 2, none⟩ = false := f0
      have HIA := hide IA
      clear IA
      go_upto_region 19 with fail
      go_cut [7] (fun v wx => v = .int .i64 1 ∧ InMs w X ZF Z5 gn S2 wx)
      case first =>
        go_region_with ((go_at_call 96; refine (bits.rlow_any _ _ _ _ _ _ (by omega) (by omega) (by omega) (by omega) (by omega) (by omega) (by omega) (by omega) (by show _ < (256 : Int); omega)).mono ?_; rintro e w5 ⟨rfl, h5⟩; have h5 := h5.symm; subst h5; rw [unhide HL2]))
        all_goals
          have HI2 := hide (unhide HX2 _ (unhide HIA).drew)
          go_wp2_with fail
          go_meet
          case rel => exact ⟨rfl, unhide HI2⟩
      case rest =>
        obtain ⟨rfl, IB⟩ := hcut
        clear k0 k0d f0 f0d HIA
        have k0 : wc.cell? ⟨gn, 3, none⟩ = some (.int .i64 (c.st.lag : Int)) := by rw [block_cell IB.st, unhide HS2]; rfl
        have k0d : wc.drew.cell? ⟨gn, 3, none⟩ = some (.int .i64 (c.st.lag : Int)) := k0
        have f0 := block_free IB.st 3
        have f0d : wc.drew.frozen? ⟨gn, 3, none⟩ = false := f0
        have HIB := hide IB
        clear IB
        go_upto_region 20 with fail
        go_cut [7] (fun v wx => v = .int .i64 1 ∧ InMs w X ZF Z5 gn NP wx)
        case first =>
          go_region_with ((go_at_call 96; refine (bits.rlow_any _ _ _ _ _ _ (by omega) (by omega) (by omega) (by omega) (by omega) (by omega) (by omega) (by omega) (by show _ < (256 : Int); omega)).mono ?_; rintro e w5 ⟨rfl, h5⟩; have h5 := h5.symm; subst h5; rw [unhide HL3]))
          all_goals
            have HI2 := hide (unhide HX3 _ (unhide HIB).drew)
            go_wp2_with fail
            go_meet
            case rel => exact ⟨rfl, unhide HI2⟩
        case rest =>
          obtain ⟨rfl, IC⟩ := hcut
          have HIC := hide IC
          clear IC HIB k0 k0d f0 f0d
          subst hC2
          go_wp2_with fail
          go_meet
          case rel => exact ⟨rfl, rfl, unhide HIC⟩
  case rest =>
    obtain ⟨rfl, rfl, I3⟩ := hcut
    clear HIS IS0 hC2
    have HI3 := hide I3
    clear I3
    go_upto_region 23 with fail
    obtain ⟨n1, n2, n3, n4, n5⟩ := unhide HNO
    have hp1 : (0 : Int) ≤ (n.stride : Int) * (n.seq : Int) := Int.mul_nonneg (by omega) (by omega)
    have hp2 : (n.stride : Int) * (n.seq : Int) ≤ 4294836225 := by
      have : n.stride * n.seq ≤ 65535 * 65535 := Nat.mul_le_mul (by omega) (by omega)
      have e : ((n.stride * n.seq : Nat) : Int) = (n.stride : Int) * (n.seq : Int) := Int.natCast_mul _ _
      omega
    have v1 : IntKind.i64.wrap ((n.stride : Int) * (n.seq : Int)) = (n.stride : Int) * (n.seq : Int) := by rw [IntKind.wrap_i64]; omega
    have v2 : IntKind.i64.wrap ((n.lag : Int) + (n.stride : Int) * (n.seq : Int)) = (n.lag : Int) + (n.stride : Int) * (n.seq : Int) := by rw [IntKind.wrap_i64]; omega
    have v3 : IntKind.i64.wrap ((n.offset : Int) + (n.seq : Int)) = (n.offset : Int) + (n.seq : Int) := by rw [IntKind.wrap_i64]; omega
    have X32 := hide (show ((n.lag : Int) + (n.stride : Int) * (n.seq : Int)) % bits.pw (Int.toNat 32) = (timeN n : Int) by
      show ((n.lag : Int) + (n.stride : Int) * (n.seq : Int)) % 4294967296 = _
      unfold timeN
      rw [← Int.natCast_mul]
      omega)
    have X16 := hide (show ((n.offset : Int) + (n.seq : Int)) % bits.pw (Int.toNat 16) = (((n.offset + n.seq) % 65536 : Nat) : Int) by
      show ((n.offset : Int) + (n.seq : Int)) % 65536 = _
      omega)
    obtain ⟨ID, hID⟩ : ∃ ID : Nat, ID = (n.offset + n.seq) % 65536 := ⟨_, rfl⟩
    rw [← hID] at X16
    have HFL := hide (show FP = #[.int .u32 (x.src : Int), .int .u32 (x.dst : Int), .int .u16 (x.port : Int), .int .i64 (n.seq : Int), .int .i64 (timeN n : Int), .int .i64 (ID : Int), .int .i64 (n.flags : Int), .string (bs (l.drop 5))] by
      rw [unhide HFP, unhide HM2, hID, (unhide HRR).1, (unhide HRR).2.1, (unhide HRR).2.2]
      rfl)
    obtain ⟨TM, hTM⟩ : ∃ TM, TM = timeN n := ⟨_, rfl⟩
    rw [← hTM] at X32 HFL
    clear hID hTM
    go_cut [16] (fun v wx => ∃ gf, v = .pointer (some ⟨gf, 0, none⟩) ∧ InMn w X ZF Z5 gf FP gn NP wx)
    case first =>
      have gA : ∀ w : World, FfTo (w.alloc (.cells #[.int .u32 0, .int .u32 0, .int .u16 0, .int .i64 0, .int .i64 0, .int .i64 0, .int .i64 0, .string ⟨#[]⟩] 120)) w.heap.size := fun w => ⟨_, _, heap_alloc_new w _, rfl⟩
      have gAd : ∀ w : World, FfTo (w.alloc (.cells #[.int .u32 0, .int .u32 0, .int .u16 0, .int .i64 0, .int .i64 0, .int .i64 0, .int .i64 0, .string ⟨#[]⟩] 120)).drew w.heap.size := fun w => gA w
      clear zvF
      have HQ := hide (unhide HI3).drew
      go_region_held3 (fun w' => w'.cell? ⟨w.heap.size, 1, none⟩ = some (.int .u32 (x.src : Int)) ∧ w'.cell? ⟨w.heap.size, 2, none⟩ = some (.int .u32 (x.dst : Int)) ∧ w'.cell? ⟨w.heap.size, 3, none⟩ = some (.int .u16 (x.port : Int)) ∧ w'.cell? ⟨gn, 0, none⟩ = some (.int .i64 (n.seq : Int)) ∧ w'.cell? ⟨gn, 1, none⟩ = some (.int .i64 (n.stride : Int)) ∧ w'.cell? ⟨gn, 2, none⟩ = some (.int .i64 (n.offset : Int)) ∧ w'.cell? ⟨gn, 3, none⟩ = some (.int .i64 (n.lag : Int)) ∧ w'.cell? ⟨gn, 4, none⟩ = some (.int .i64 (n.flags : Int)) ∧ InMs w X ZF Z5 gn NP w')
        ((first
          | (exact (unhide HI3).drew.outC x1 x2 x3 (unhide HNP))
          | (exact (InMs.call (unhide HI3).drew ((Below.refl _ _).alloc (Nat.le_refl _) _)).outC x1 x2 x3 (unhide HNP))
          | (exact (⟨((InMs.flat (unhide HI3).drew _).putFl _).all.all, ((InMs.flat (unhide HI3).drew _).putFl _).st, (unhide HI3).up⟩ : InMs w X ZF Z5 gn NP _).outC x1 x2 x3 (unhide HNP))))
        ((go_at_call 78; refine (bits.mod_any _ _ _ (by omega) (by omega) (by omega) (by omega)).mono ?_; rintro e w5 ⟨rfl, h5⟩; have h5 := h5.symm; subst h5; first | rw [unhide X32] | rw [unhide X16]))
      all_goals go_split_ands
      all_goals
        have HF := hide ((InMs.flat (unhide HI3).drew #[.int .u32 0, .int .u32 0, .int .u16 0, .int .i64 0, .int .i64 0, .int .i64 0, .int .i64 0, .string ⟨#[]⟩]).putFl #[.int .u32 (x.src : Int), .int .u32 (x.dst : Int), .int .u16 (x.port : Int), .int .i64 (n.seq : Int), .int .i64 (TM : Int), .int .i64 (ID : Int), .int .i64 (n.flags : Int), .string (bs (l.drop 5))])
        go_wp2_with fail
        go_meet
        case rel => exact ⟨_, rfl, by rw [unhide HFL]; exact unhide HF⟩
    case rest =>
      obtain ⟨gf, rfl, I4⟩ := hcut
      have HI4 := hide I4
      clear I4 HI3
      go_upto_region 24 with fail
      obtain ⟨G, hG⟩ : ∃ G : Bool, G = decide (chk 7 P = C) := ⟨_, rfl⟩
      have HG := hide hG
      clear hG
      have hzF : ZF.size = 8 := by rw [unhide HZF]; rfl
      have hz5 : Z5.size = 5 := by rw [unhide HZ5]; rfl
      have HzF := hide hzF
      have Hz5 := hide hz5
      clear hzF hz5
      go_cut [6] (fun v wx => v = .bool G ∧ InM w X FP NP wx)
      case first =>
        have HQ := hide (unhide HI4).drew
        go_region_held3 (fun w' => FfIn w' gf ∧ ffOf w' gf = FP ∧ RsMid w' gn 0 ∧ rsOf w' gn 0 = NP ∧ FfTo w' (w.heap.size + 1) ∧ RsIn w' (w.heap.size + 1 + 1) ∧ InMo w X gf FP gn NP w')
          ((first
            | (exact InMo.out2 gF.1 gN.1 ⟨_, _, unhide HzF, unhide Hz5, (unhide HI4).drew⟩)
            | (exact InMo.out2 gF.1 gN.1 ⟨_, _, unhide HzF, unhide Hz5, unhide (by assumption : Hid (InMn w X ZF Z5 gf FP gn NP _))⟩)
            | (exact InMo.out2 gF.1 gN.1 ⟨_, _, gF.1, unhide Hz5, ((unhide (by assumption : Hid (InMn w X ZF Z5 gf FP gn NP _))).done FP NP).1⟩)
            | (exact InMo.out2 gF.1 gN.1 ⟨_, _, unhide HzF, gN.1, ((unhide (by assumption : Hid (InMn w X ZF Z5 gf FP gn NP _))).done FP NP).2⟩)
            | (exact InMo.out2 gF.1 gN.1 ⟨_, _, gF.1, gN.1, ((((unhide (by assumption : Hid (InMn w X ZF Z5 gf FP gn NP _))).done FP NP).1).done FP NP).2⟩)
            | (exact InMo.out2 gF.1 gN.1 ⟨_, _, gF.1, gN.1, ((((unhide (by assumption : Hid (InMn w X ZF Z5 gf FP gn NP _))).done FP NP).2).done FP NP).1⟩)))
          ((first
            | (go_at_call 82; rw [unhide HFP]; refine (header_any P _ (unhide HPO)).mono ?_; rintro e w7 ⟨rfl, hbel⟩; rw [← unhide HFP]; have HQ7 := hide (InMn.call (unhide (by assumption : Hid (InMn w X ZF Z5 gf FP gn NP _))) hbel))
            | (go_at_call 83; refine (rchk7 P _).mono ?_; rintro e w8 ⟨rfl, hbel⟩; have HQ8 := hide (InMn.call (unhide (by assumption : Hid (InMn w X ZF Z5 gf FP gn NP _))) hbel))))
        all_goals go_split_ands
        all_goals go_wp2_with fail
        all_goals go_meet
        all_goals (case rel => exact ⟨by rw [unhide HG, ← chk_same2 (chk 7 P) C], ((unhide (by assumption : Hid (InMn w X ZF Z5 gf FP gn NP w8))).all.all.putF FP).putN NP⟩)
      case rest =>
        obtain ⟨rfl, I5⟩ := hcut
        have HI5 := hide I5
        clear I5 HI4
        go_wp2_with fail
        exact ret_cells2 (c1 := FP) (c2 := NP) Tryz.results57 rfl rfl (unhide HI5).two (unhide HI5).three Tryz.underlying120 rfl (by rw [gF.1]; exact infoFf) Tryz.underlying128 rfl (by rw [gN.1]; exact infoRs) rfl ⟨by rw [← unhide HP, ← unhide HN, ← unhide HFP, ← unhide HNP, unhide HK, ← unhide HC]; show Ending.returned (.tuple #[.agg FP, .agg NP, .bool G]) = _; rw [unhide HG]; rfl, (unhide HI5).below⟩

end Go.Proofs.YtgpojbgjfibblabGreat.texts
