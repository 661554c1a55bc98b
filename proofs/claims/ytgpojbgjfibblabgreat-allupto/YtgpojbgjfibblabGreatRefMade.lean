/-
  The walk of the document's made (package gistref): what a frame tells.
  Conditions stand in each theorem.
-/
import Derived.Test.YtgpojbgjfibblabGreatRefShape
import Derived.Test.YtgpojbgjfibblabGreatPart23
import Derived.Deep.DeepCutAuto
namespace Go.Proofs.YtgpojbgjfibblabGreat.texts
open Go.RowKit
set_option linter.unusedVariables false
attribute [local go_sem ↓] Go.wp_at_zero Go.wp_at_succ
attribute [local go_sem] bs_size be_length bs_append List.length_append bs_extract bs_list

/-- a packet taken apart is stored, kept whole -/
def storeFf (v u : Value) : Sem Unit := Instr.storeAt 120 v u
theorem storeFf_eq (v u : Value) : Instr.storeAt 120 v u = storeFf v u := rfl
theorem infoFf : (Tryz.prog.info? 120).map (·.size) = some 8 := by kernel_rfl
def FfTo (w : World) (g : Nat) : Prop := ∃ c t, w.heap[g]? = some (.cells c t (0, 0)) ∧ c.size = 8
def GoodFf (C : Array Value) : Prop := C.size = 8 ∧ C.all (·.oneCell') = true
theorem run_storeFf (w : World) (g : Nat) (C : Array Value) (h : FfTo w g) (hC : GoodFf C) : (storeFf (.pointer (some ⟨g, 0, none⟩)) (.agg C)).run Tryz.prog w = .ok () (w.setRow g C) := by
  obtain ⟨c, t, h1, h2⟩ := h
  have h3 := run_storeVar_row (P := Tryz.prog) w g t 120 c C h1 (by rw [infoFf, hC.1]) (by rw [hC.1, h2]) hC.2
  simp only [storeFf, Instr.storeAt, Instr.sureAddr, Sem.run_bind, Sem.run_pure, Result.andThen_ok, h3]
theorem Pk.flat_one (p : Pk) : p.flat.all (·.oneCell') = true := by
  refine Array.all_eq_true_iff_forall_mem.2 (fun v hv => ?_)
  simp only [Pk.flat, List.mem_toArray, List.mem_cons, List.not_mem_nil, or_false] at hv
  rcases hv with h | h | h | h | h | h | h | h <;> (subst h; rfl)
theorem Pk.goodFf (p : Pk) : GoodFf p.flat := ⟨rfl, Pk.flat_one p⟩
/-- loads of a packet taken apart, and of a state, kept whole -/
def ffOf (w : World) (g : Nat) : Array Value := match w.heap[g]? with | some (.cells c _ _) => c | _ => #[]
def FfIn (w : World) (g : Nat) : Prop := ∃ c t fr, w.heap[g]? = some (.cells c t fr) ∧ c.size = 8
def loadFf (v : Value) : Sem Value := Instr.loadAt 120 v
theorem loadFf_eq (v : Value) : Instr.loadAt 120 v = loadFf v := rfl
theorem run_loadFf (w : World) (g : Nat) (h : FfIn w g) : (loadFf (.pointer (some ⟨g, 0, none⟩))).run Tryz.prog w = .ok (.agg (ffOf w g)) w := by
  obtain ⟨c, t, fr, h1, h2⟩ := h
  have := run_loadAt_mid (P := Tryz.prog) w g 0 120 _ _ (World.rangeAt_of_block h1 0 8) Tryz.underlying120 rfl (by rw [infoFf]; simp; omega)
  have e : c.extract 0 (0 + 8) = c := by rw [show 0 + 8 = c.size by omega]; exact Array.extract_size
  rw [e] at this
  simpa [loadFf, ffOf, h1] using this
def RsRd (w : World) (g : Nat) : Prop := ∃ c t fr, w.heap[g]? = some (.cells c t fr) ∧ c.size = 5
def loadRs (v : Value) : Sem Value := Instr.loadAt 128 v
theorem loadRs_eq (v : Value) : Instr.loadAt 128 v = loadRs v := rfl
theorem run_loadRs (w : World) (g : Nat) (h : RsRd w g) : (loadRs (.pointer (some ⟨g, 0, none⟩))).run Tryz.prog w = .ok (.agg (ffOf w g)) w := by
  obtain ⟨c, t, fr, h1, h2⟩ := h
  have := run_loadAt_mid (P := Tryz.prog) w g 0 128 _ _ (World.rangeAt_of_block h1 0 5) Tryz.underlying128 rfl (by rw [infoRs]; simp; omega)
  have e : c.extract 0 (0 + 5) = c := by rw [show 0 + 5 = c.size by omega]; exact Array.extract_size
  rw [e] at this
  simpa [loadRs, ffOf, h1] using this
theorem ff_in {w : World} {g : Nat} {p : Pk} {t : TypeId} {fr : Nat × Nat} (h : w.heap[g]? = some (.cells p.flat t fr)) : FfIn w g ∧ ffOf w g = p.flat := ⟨⟨_, _, _, h, rfl⟩, by unfold ffOf; rw [h]⟩
theorem rs_in {w : World} {g : Nat} {n : St} {t : TypeId} {fr : Nat × Nat} (h : w.heap[g]? = some (.cells n.flat t fr)) : RsRd w g ∧ ffOf w g = n.flat := ⟨⟨_, _, _, h, rfl⟩, by unfold ffOf; rw [h]⟩
/-- three results, two of them in blocks -/
theorem ret_cells2 {fn : Func} {p q r : Tmp} {ty1 ty2 : TypeId} {d1 d2 : TypeDesc} {a : Act} {w : World} {g1 g2 : Nat} {t1 t2 : TypeId} {c1 c2 : Array Value} {R : Ending → World → Prop}
    (h : fn.results = #[.cell p ty1, .cell q ty2, .tmp r]) (hp : a.tmps.getD p undef = .pointer (some ⟨g1, 0, none⟩)) (hq : a.tmps.getD q undef = .pointer (some ⟨g2, 0, none⟩)) (hg1 : w.heap[g1]? = some (.cells c1 t1 (0, 0))) (hg2 : w.heap[g2]? = some (.cells c2 t2 (0, 0)))
    (hu1 : Tryz.prog.underlying ty1 = some d1) (hd1 : d1.isRow = true) (hi1 : (Tryz.prog.info? ty1).map (·.size) = some c1.size) (hu2 : Tryz.prog.underlying ty2 = some d2) (hd2 : d2.isRow = true) (hi2 : (Tryz.prog.info? ty2).map (·.size) = some c2.size) (hf : a.defers = []) (hR : R (.returned (.tuple #[.agg c1, .agg c2, a.tmps.getD r undef])) w) :
    bodyPost Tryz.prog fn R .ret a w := by
  refine bodyPost_ret (v := .tuple #[.agg c1, .agg c2, a.tmps.getD r undef]) ?_ hf hR
  have hp' : a.tmps[p]?.getD undef = .pointer (some ⟨g1, 0, none⟩) := by simpa using hp
  have hq' : a.tmps[q]?.getD undef = .pointer (some ⟨g2, 0, none⟩) := by simpa using hq
  have e1 := run_loadVar_mid (P := Tryz.prog) w g1 0 ty1 c1.toList d1 (range_block hg1) hu1 hd1 (by rw [hi1, Array.length_toList])
  have e2 := run_loadVar_mid (P := Tryz.prog) w g2 0 ty2 c2.toList d2 (range_block hg2) hu2 hd2 (by rw [hi2, Array.length_toList])
  simp [results, h, hp', hq', asAddr, e1, e2]
attribute [local go_sem ↓] storeFf_eq loadFf_eq loadRs_eq storeRs_eq
attribute [local go_sem] run_storeFf run_loadFf run_loadRs run_storeRs

/-- the two blocks of the results, and what came before -/
structure InM (w : World) (X : Array Value) (F N : Array Value) (w1 : World) : Prop where
  one : w1.heap[w.heap.size]? = some (.cells X 126 (0, 0))
  two : w1.heap[w.heap.size + 1]? = some (.cells F 120 (0, 0))
  three : w1.heap[w.heap.size + 1 + 1]? = some (.cells N 128 (0, 0))
  below : Below w.heap.size w w1
theorem InM.start (w : World) (X F N : Array Value) : InM w X F N (((w.alloc (.cells X 126)).alloc (.cells F 120)).alloc (.cells N 128)) :=
  ⟨block_alloc (block_alloc (heap_alloc_new w _) _) _, second_alloc w _ _ _, third_alloc w _ _ _, (((Below.refl _ _).alloc (Nat.le_refl _) _).alloc (by simp) _).alloc (by simp; omega) _⟩
theorem InM.call {w w1 w2 : World} {X F N : Array Value} (h : InM w X F N w1) (hb : Below w1.heap.size w1 w2) : InM w X F N w2 :=
  ⟨block_keep h.one hb, block_keep h.two hb, block_keep h.three hb, keep_below h.below hb (Nat.le_of_lt (block_lt h.one))⟩
theorem InM.drew {w w1 : World} {X F N : Array Value} (h : InM w X F N w1) : InM w X F N w1.drew := ⟨h.one, h.two, h.three, h.below.drew⟩
theorem InM.putF {w w1 : World} {X F N : Array Value} (h : InM w X F N w1) (C : Array Value) : InM w X C N (w1.setRow (w.heap.size + 1) C) :=
  ⟨by rw [setRow_other _ _ _ _ (by omega)]; exact h.one, setRow_heap _ _ _ _ _ _ h.two, by rw [setRow_other _ _ _ _ (by omega)]; exact h.three, below_setRow h.below (by omega) _⟩
theorem InM.putN {w w1 : World} {X F N : Array Value} (h : InM w X F N w1) (C : Array Value) : InM w X F C (w1.setRow (w.heap.size + 1 + 1) C) :=
  ⟨by rw [setRow_other _ _ _ _ (by omega)]; exact h.one, by rw [setRow_other _ _ _ _ (by omega)]; exact h.two, setRow_heap _ _ _ _ _ _ h.three, below_setRow h.below (by omega) _⟩
theorem InM.put {w w1 : World} {X F N : Array Value} (h : InM w X F N w1) {g : Nat} (hg : w.heap.size + 1 + 1 < g) (C : Array Value) : InM w X F N (w1.setRow g C) :=
  ⟨by rw [setRow_other _ _ _ _ (by omega)]; exact h.one, by rw [setRow_other _ _ _ _ (by omega)]; exact h.two, by rw [setRow_other _ _ _ _ (by omega)]; exact h.three, below_setRow h.below (by omega) _⟩
/-- with a packet in a block of its own -/
structure InMf (w : World) (X F N : Array Value) (gf : Nat) (P : Array Value) (w1 : World) : Prop where
  all : InM w X F N w1
  fl : w1.heap[gf]? = some (.cells P 120 (0, 0))
  up : w.heap.size + 1 + 1 < gf
theorem InMf.call {w w1 w2 : World} {X F N : Array Value} {gf : Nat} {P : Array Value} (h : InMf w X F N gf P w1) (hb : Below w1.heap.size w1 w2) : InMf w X F N gf P w2 := ⟨h.all.call hb, block_keep h.fl hb, h.up⟩
theorem InMf.drew {w w1 : World} {X F N : Array Value} {gf : Nat} {P : Array Value} (h : InMf w X F N gf P w1) : InMf w X F N gf P w1.drew := ⟨h.all.drew, h.fl, h.up⟩
theorem InMf.new {w w1 : World} {X F N : Array Value} (h : InM w X F N w1) (P : Array Value) : InMf w X F N w1.heap.size P (w1.alloc (.cells P 120)) :=
  ⟨h.call ((Below.refl _ _).alloc (Nat.le_refl _) _), heap_alloc_new w1 _, block_lt h.three⟩
theorem InMf.put {w w1 : World} {X F N : Array Value} {gf : Nat} {P : Array Value} (h : InMf w X F N gf P w1) (C : Array Value) : InMf w X F N gf C (w1.setRow gf C) := ⟨h.all.put h.up C, setRow_heap _ _ _ _ _ _ h.fl, h.up⟩
/-- and a state -/
structure InMn (w : World) (X F N : Array Value) (gf : Nat) (P : Array Value) (gn : Nat) (S : Array Value) (w1 : World) : Prop where
  all : InMf w X F N gf P w1
  st : w1.heap[gn]? = some (.cells S 128 (0, 0))
  up : w.heap.size + 1 + 1 < gn
  ne : gn ≠ gf
theorem InMn.call {w w1 w2 : World} {X F N : Array Value} {gf gn : Nat} {P S : Array Value} (h : InMn w X F N gf P gn S w1) (hb : Below w1.heap.size w1 w2) : InMn w X F N gf P gn S w2 := ⟨h.all.call hb, block_keep h.st hb, h.up, h.ne⟩
theorem InMn.drew {w w1 : World} {X F N : Array Value} {gf gn : Nat} {P S : Array Value} (h : InMn w X F N gf P gn S w1) : InMn w X F N gf P gn S w1.drew := ⟨h.all.drew, h.st, h.up, h.ne⟩
theorem InMn.new {w w1 : World} {X F N : Array Value} {gf : Nat} {P : Array Value} (h : InMf w X F N gf P w1) (S : Array Value) : InMn w X F N gf P w1.heap.size S (w1.alloc (.cells S 128)) :=
  have h1 := block_lt h.fl
  ⟨h.call ((Below.refl _ _).alloc (Nat.le_refl _) _), heap_alloc_new w1 _, block_lt h.all.three, by omega⟩
theorem InMn.put {w w1 : World} {X F N : Array Value} {gf gn : Nat} {P S : Array Value} (h : InMn w X F N gf P gn S w1) (C : Array Value) : InMn w X F N gf P gn C (w1.setRow gn C) :=
  ⟨⟨h.all.all.put h.up C, by rw [setRow_other _ _ _ _ (fun e => h.ne e.symm)]; exact h.all.fl, h.all.up⟩, setRow_heap _ _ _ _ _ _ h.st, h.up, h.ne⟩
theorem InMn.done {w w1 : World} {X F N : Array Value} {gf gn : Nat} {P S : Array Value} (h : InMn w X F N gf P gn S w1) (A C : Array Value) : InMn w X A N gf P gn S (w1.setRow (w.heap.size + 1) A) ∧ InMn w X F C gf P gn S (w1.setRow (w.heap.size + 1 + 1) C) := by
  have a1 := h.up
  have a2 := h.all.up
  exact ⟨⟨⟨h.all.all.putF A, by rw [setRow_other _ _ _ _ (by omega)]; exact h.all.fl, a2⟩, by rw [setRow_other _ _ _ _ (by omega)]; exact h.st, a1, h.ne⟩, ⟨⟨h.all.all.putN C, by rw [setRow_other _ _ _ _ (by omega)]; exact h.all.fl, a2⟩, by rw [setRow_other _ _ _ _ (by omega)]; exact h.st, a1, h.ne⟩⟩

/-- whatever the results' blocks hold -/
def InMo (w : World) (X : Array Value) (gf : Nat) (P : Array Value) (gn : Nat) (S : Array Value) (w1 : World) : Prop := ∃ F N, F.size = 8 ∧ N.size = 5 ∧ InMn w X F N gf P gn S w1
theorem InMo.out {w w1 : World} {X P S : Array Value} {gf gn : Nat} (hP : P.size = 8) (hS : S.size = 5) (h : InMo w X gf P gn S w1) : FfIn w1 gf ∧ ffOf w1 gf = P ∧ RsRd w1 gn ∧ ffOf w1 gn = S ∧ FfTo w1 (w.heap.size + 1) ∧ RsIn w1 (w.heap.size + 1 + 1) ∧ InMo w X gf P gn S w1 := by
  obtain ⟨F, N, h1, h2, h3⟩ := h
  exact ⟨⟨_, _, _, h3.all.fl, hP⟩, by unfold ffOf; rw [h3.all.fl], ⟨_, _, _, h3.st, hS⟩, by unfold ffOf; rw [h3.st], ⟨_, _, h3.all.all.two, h1⟩, ⟨_, _, h3.all.all.three, h2⟩, F, N, h1, h2, h3⟩
theorem chk_same (a b : Nat) (hb : b < 256) : ((a : Int) == IntKind.i64.wrap (b : Int)) = decide (a = b) := by
  have e : IntKind.i64.wrap (b : Int) = (b : Int) := by rw [IntKind.wrap_i64]; omega
  rw [e, Bool.eq_iff_iff, beq_iff_eq, decide_eq_true_eq]
  omega
def MadeIs (w : World) (c : Rx) (l : List UInt8) (e : Ending) (w' : World) : Prop :=
  e = .returned (.tuple #[.agg (madeN c (shapeF l)).flat, .agg (followN c (shapeF l)).st.flat, .bool (decide (chk (widthN (shapeF l).kind) (madeN c (shapeF l)) = (shapeF l).chk))]) ∧ Below w.heap.size w w'

set_option maxRecDepth 100000 in
set_option maxHeartbeats 8000000 in
theorem made_3 (x : Rc) (c : Rx) (l : List UInt8) (w : World) (hc : c.ok) (h : Shape l) (hk : byteN l 0 / 64 = 3) (hl : l.length ≤ 1000) :
    Calls Tryz.prog 57 #[.agg x.cells, .string (bs l)] w fun e w' => MadeIs w c l e w' := by
  obtain ⟨m1, m2, m3⟩ := made_whole (c := c) h hk
  have hle : 23 ≤ l.length := by have := h.least; rw [hk] at this; exact this
  have kd : (shapeF l).kind = 3 := (shapeF_parts l).1.trans hk
  have s0 : 0 < (bs l).size := by rw [bs_size]; omega
  have b0 := byte_at l 0 (by omega) s0
  have l0 := byteN_lt l 0
  obtain ⟨B, hB⟩ : ∃ B, B = byteN l 0 := ⟨_, rfl⟩
  rw [← hB] at b0 l0 hk
  have d1 : (B : Int).tdiv 64 = 3 := by rw [Int.tdiv_eq_ediv_of_nonneg (by omega)]; omega
  have d2 : (B : Int) / 64 = 3 := by omega
  obtain ⟨P, hP⟩ : ∃ P, P = madeN c (shapeF l) := ⟨_, rfl⟩
  obtain ⟨n, hn⟩ : ∃ n, n = (followN c (shapeF l)).st := ⟨_, rfl⟩
  have hPok : P.ok := by rw [hP]; exact madeN_ok hc (readF_ok (readF_shape h)).1
  rw [← hP] at m1 m2
  rw [← hn] at m2
  have HP := hide hP
  have HN := hide hn
  have HM1 := hide m1
  have HM2 := hide m2
  have HM3 := hide m3
  have HK := hide kd
  have HPO := hide hPok
  obtain ⟨X, hX⟩ : ∃ X, X = x.cells := ⟨_, rfl⟩
  have x1 : X[1]? = some (.int .u32 (x.src : Int)) := by rw [hX]; rfl
  have x2 : X[2]? = some (.int .u32 (x.dst : Int)) := by rw [hX]; rfl
  have x3 : X[3]? = some (.int .u16 (x.port : Int)) := by rw [hX]; rfl
  rw [← hX]
  obtain ⟨ZF, hZF⟩ : ∃ ZF : Array Value, ZF = zeroP.flat := ⟨_, rfl⟩
  have zvF : ∀ w, (zeroValue 120).run Tryz.prog w = .ok (.agg ZF) w := by rw [hZF]; intro w; exact Tryz.zeroValue120 w
  obtain ⟨Z5, hZ5⟩ : ∃ Z5 : Array Value, Z5 = St.zero.flat := ⟨_, rfl⟩
  have zv5 : ∀ w, (zeroValue 128).run Tryz.prog w = .ok (.agg Z5) w := by rw [hZ5]; intro w; exact Tryz.zeroValue128 w
  have HZF := hide hZF
  have HZ5 := hide hZ5
  obtain ⟨FP, hFP⟩ : ∃ FP, FP = P.flat := ⟨_, rfl⟩
  obtain ⟨NP, hNP⟩ : ∃ NP, NP = n.flat := ⟨_, rfl⟩
  have gF : GoodFf FP := by rw [hFP]; exact Pk.goodFf P
  have gN : GoodRs NP := by rw [hNP]; exact St.goodRs n
  have HFP := hide hFP
  have HNP := hide hNP
  have HI0 := hide (InM.start w X ZF Z5)
  have HA : ∀ w : World, Calls Tryz.prog 92 #[.int .i64 3] w fun e w' => e = .returned (.int .i64 23) ∧ w' = w := fun w => ahead_any 3 w (by omega)
  have HA' := hide HA
  clear hX hZF hZ5 hP hn hPok m1 m2 m3 kd hFP hNP hB HA hk h hc
  go_enter Tryz.func57, Tryz.ntmps57
  go_upto_region 9 with (first
    | (go_at_call 92; refine (unhide HA' _).mono ?_; rintro e w1 ⟨rfl, h1⟩; have h1 := h1.symm; subst h1)
    | (go_at_call 93; refine Stop.out ?_))
  refine ⟨?_⟩
  obtain ⟨T, hT⟩ : ∃ T, T = (List.take 11 l).tail := ⟨_, rfl⟩
  have hTl : T.length = 10 := by rw [hT, List.length_tail, List.length_take]; omega
  rw [← hT]
  have eW : (((w.alloc (.cells X 126)).alloc (.cells ZF 120)).alloc (.cells Z5 128)).heap.size = w.heap.size + 1 + 1 + 1 := by simp
  have RB0 := heap_alloc_new (((w.alloc (.cells X 126)).alloc (.cells ZF 120)).alloc (.cells Z5 128)) (.cells #[.int .u32 (x.src : Int), .int .u32 (x.dst : Int), .int .u16 (x.port : Int)] 41)
  rw [eW] at RB0
  have I1 := (unhide HI0).call ((Below.refl _ _).alloc (Nat.le_refl _) (.cells #[.int .u32 (x.src : Int), .int .u32 (x.dst : Int), .int .u16 (x.port : Int)] 41))
  refine (routeOf_any T _ hTl).mono ?_
  rintro e w1 ⟨rfl, hb1⟩
  have RB1 := block_keep RB0 hb1
  have HI1 := hide (I1.call hb1)
  obtain ⟨a, ha⟩ : ∃ a, a = numOf (T.take 4) := ⟨_, rfl⟩
  obtain ⟨b, hb⟩ : ∃ b, b = numOf ((T.take 8).drop 4) := ⟨_, rfl⟩
  obtain ⟨cc, hcc⟩ : ∃ c, c = numOf ((T.take 10).drop 8) := ⟨_, rfl⟩
  rw [← ha, ← hb, ← hcc]
  have HPW := hide (show P = withP a b cc ((l.drop 11).take 9) (l.drop 23) by rw [unhide HM1, ha, hb, hcc, hT, List.drop_one])
  have r0 : w1.cell? ⟨w.heap.size + 1 + 1 + 1, 0, none⟩ = some (.int .u32 (x.src : Int)) := block_cell RB1 0
  have r1 : w1.cell? ⟨w.heap.size + 1 + 1 + 1, 1, none⟩ = some (.int .u32 (x.dst : Int)) := block_cell RB1 1
  have r2 : w1.cell? ⟨w.heap.size + 1 + 1 + 1, 2, none⟩ = some (.int .u16 (x.port : Int)) := block_cell RB1 2
  have f0 := block_free RB1 0
  have f1 := block_free RB1 1
  have f2 := block_free RB1 2
  have HRB1 := hide RB1
  clear hb1 RB1 RB0 I1 HI0 eW ha hb hcc hT hTl HM1 x1 x2 x3
  go_upto_region 9 with fail
  have RB2 := block_put (block_put (block_put (unhide HRB1) 0 (.int .u32 (a : Int))) 1 (.int .u32 (b : Int))) 2 (.int .u16 (cc : Int))
  have I2 : InM w X ZF Z5 (((w1.setCell ⟨w.heap.size + 1 + 1 + 1, 0, none⟩ (.int .u32 (a : Int))).setCell ⟨w.heap.size + 1 + 1 + 1, 1, none⟩ (.int .u32 (b : Int))).setCell ⟨w.heap.size + 1 + 1 + 1, 2, none⟩ (.int .u16 (cc : Int))) := by
    have n0 : w.heap.size ≠ w.heap.size + 1 + 1 + 1 := by omega
    have n1 : w.heap.size + 1 ≠ w.heap.size + 1 + 1 + 1 := by omega
    have n2 : w.heap.size + 1 + 1 ≠ w.heap.size + 1 + 1 + 1 := by omega
    have I := unhide HI1
    exact ⟨block_set (block_set (block_set I.one (by exact n0) _) (by exact n0) _) (by exact n0) _, block_set (block_set (block_set I.two (by exact n1) _) (by exact n1) _) (by exact n1) _, block_set (block_set (block_set I.three (by exact n2) _) (by exact n2) _) (by exact n2) _, ((I.below.setCell (by show w.heap.size ≤ w.heap.size + 1 + 1 + 1; omega) _).setCell (by show w.heap.size ≤ w.heap.size + 1 + 1 + 1; omega) _).setCell (by show w.heap.size ≤ w.heap.size + 1 + 1 + 1; omega) _⟩
  clear r0 r1 r2 f0 f1 f2 HI1 HRB1
  generalize ((w1.setCell ⟨w.heap.size + 1 + 1 + 1, 0, none⟩ (.int .u32 (a : Int))).setCell ⟨w.heap.size + 1 + 1 + 1, 1, none⟩ (.int .u32 (b : Int))).setCell ⟨w.heap.size + 1 + 1 + 1, 2, none⟩ (.int .u16 (cc : Int)) = w2 at RB2 I2 ⊢
  generalize w.heap.size + 1 + 1 + 1 = gr at RB2 ⊢
  have r0 : w2.cell? ⟨gr, 0, none⟩ = some (.int .u32 (a : Int)) := block_cell RB2 0
  have r1 : w2.cell? ⟨gr, 1, none⟩ = some (.int .u32 (b : Int)) := block_cell RB2 1
  have r2 : w2.cell? ⟨gr, 2, none⟩ = some (.int .u16 (cc : Int)) := block_cell RB2 2
  have r0d : w2.drew.cell? ⟨gr, 0, none⟩ = some (.int .u32 (a : Int)) := r0
  have r1d : w2.drew.cell? ⟨gr, 1, none⟩ = some (.int .u32 (b : Int)) := r1
  have r2d : w2.drew.cell? ⟨gr, 2, none⟩ = some (.int .u16 (cc : Int)) := r2
  have hgr : gr < w2.heap.size := block_lt RB2
  have t9 : ((l.drop 11).take 9).length = 9 := by rw [List.length_take, List.length_drop]; omega
  have HI2 := hide I2
  clear RB2 I2
  obtain ⟨U, hU⟩ : ∃ U, U = l.drop 11 := ⟨_, rfl⟩
  have hUl : U.length = l.length - 11 := by rw [hU, List.length_drop]
  rw [← hU] at t9 HPW ⊢
  have HU := hide hU
  clear hU
  go_cut [11] (fun v wx => ∃ gf, v = .pointer (some ⟨gf, 0, none⟩) ∧ InMf w X ZF Z5 gf FP wx)
  case first =>
    have gA : ∀ w : World, FfTo (w.alloc (.cells ZF 120)) w.heap.size := fun w => ⟨_, _, heap_alloc_new w _, by rw [unhide HZF]; rfl⟩
    go_region_with ((go_at_call 94; refine (with_any a b cc _ _ _ t9).mono ?_; rintro e w5 ⟨rfl, hbel⟩; rw [← unhide HPW, ← unhide HFP]; first | (have HT5 := hide (InMf.call (InMf.new (unhide HI2).drew ZF) hbel); have gz : FfTo w5 w2.heap.size := ⟨_, _, (unhide HT5).fl, by rw [unhide HZF]; rfl⟩; clear hbel) | (have HI5 := hide (InM.call (unhide HI2).drew hbel); clear hbel)))
    all_goals
      first
        | (have HF := hide ((unhide HT5).put FP); go_wp2_with fail; go_meet; case rel => exact ⟨_, rfl, unhide HF⟩)
        | (have HF := hide ((InMf.new (unhide HI5) ZF).put FP); go_wp2_with fail; go_meet; case rel => exact ⟨_, rfl, unhide HF⟩)
  case rest =>
    obtain ⟨gf, rfl, I3⟩ := hcut
    clear HI2 r0 r1 r2 r0d r1d r2d
    obtain ⟨sd, hsd⟩ : ∃ sd, sd = numOf ((U.take 11).drop 9) := ⟨_, rfl⟩
    have hsd2 : sd < 65536 := by rw [hsd]; exact numOf_lt' 2 (by simp; omega)
    have hnum : (bs ((U.take 11).drop 9)).size ≤ 7 := by rw [bs_size]; simp; omega
    have hbl : (bs ((U.take 11).drop 9)).data.toList = (U.take 11).drop 9 := bs_list _
    have HSD := hide hsd
    have HM2' := hide (show n = stateN P sd by rw [unhide HM2, hsd, unhide HU])
    have u1 : ∀ W : World, W.heap[gf]? = some (.cells FP 120 (0, 0)) → FfIn W gf ∧ ffOf W gf = FP := fun W hW => ⟨⟨_, _, _, hW, gF.1⟩, by unfold ffOf; rw [hW]⟩
    have y1 : FfIn wc.drew gf := (u1 _ I3.fl).1
    have y2 : ffOf wc.drew gf = FP := (u1 _ I3.fl).2
    have y1a : ∀ O, FfIn (wc.drew.alloc O) gf := fun O => (u1 _ (block_alloc (show wc.drew.heap[gf]? = _ from I3.fl) O)).1
    have y2a : ∀ O, ffOf (wc.drew.alloc O) gf = FP := fun O => (u1 _ (block_alloc (show wc.drew.heap[gf]? = _ from I3.fl) O)).2
    have y1b : ∀ O, FfIn (wc.alloc O).drew gf := fun O => (u1 _ (show (wc.alloc O).drew.heap[gf]? = _ from block_alloc I3.fl O)).1
    have y2b : ∀ O, ffOf (wc.alloc O).drew gf = FP := fun O => (u1 _ (show (wc.alloc O).drew.heap[gf]? = _ from block_alloc I3.fl O)).2
    have HI3 := hide I3
    clear I3 hsd HM2 u1
    go_upto_region 10 with fail
    go_cut [12] (fun v wx => ∃ gn, v = .pointer (some ⟨gn, 0, none⟩) ∧ InMn w X ZF Z5 gf FP gn NP wx)
    case first =>
      have gA : ∀ w : World, RsIn (w.alloc (.cells Z5 128)) w.heap.size := fun w => ⟨_, _, heap_alloc_new w _, by rw [unhide HZ5]; rfl⟩
      go_region_with ((first
        | (go_at_call 95; refine (number_any _ _ hnum).mono ?_; rintro e w5 ⟨rfl, h5⟩; have h5 := h5.symm; subst h5; rw [hbl, ← unhide HSD])
        | (go_at_call 77; rw [unhide HFP]; refine (rstateOf_any P sd _ (unhide HPO) hsd2).mono ?_; rintro e w6 ⟨rfl, hbel⟩; rw [← unhide HFP, ← unhide HM2', ← unhide HNP]; first | (have HT6 := hide (InMn.call (InMn.new (unhide HI3).drew Z5) hbel); have gz : RsIn w6 wc.heap.size := ⟨_, _, (unhide HT6).st, by rw [unhide HZ5]; rfl⟩; clear hbel) | (have HI6 := hide (InMf.call (unhide HI3).drew hbel); clear hbel))))
      all_goals
        first
          | (have HF := hide ((unhide HT6).put NP); go_wp2_with fail; go_meet; case rel => exact ⟨_, rfl, unhide HF⟩)
          | (have HF := hide ((InMn.new (unhide HI6) Z5).put NP); go_wp2_with fail; go_meet; case rel => exact ⟨_, rfl, unhide HF⟩)
    case rest =>
      obtain ⟨gn, rfl, I4⟩ := hcut
      clear y1 y2 y1a y2a y1b y2b HI3
      have sU : 11 < (bs U).size := by rw [bs_size]; omega
      have bU := byte_at U 11 (by omega) sU
      have lU := byteN_lt U 11
      obtain ⟨C, hC⟩ : ∃ C, C = byteN U 11 := ⟨_, rfl⟩
      rw [← hC] at bU lU
      have HC := hide (show (shapeF l).chk = C by rw [unhide HM3, hC, unhide HU, byteN_drop])
      have HI4 := hide I4
      clear hC I4
      go_upto_region 11 with fail
      obtain ⟨G, hG⟩ : ∃ G : Bool, G = decide (chk 8 P = C) := ⟨_, rfl⟩
      have HG := hide hG
      clear hG
      have hzF : ZF.size = 8 := by rw [unhide HZF]; rfl
      have hz5 : Z5.size = 5 := by rw [unhide HZ5]; rfl
      have HzF := hide hzF
      have Hz5 := hide hz5
      clear hzF hz5
      go_cut [6] (fun v wx => v = .bool G ∧ InM w X FP NP wx)
      case first =>
        have HQ := hide (unhide HI4).drew
        go_region_held3 (fun w' => FfIn w' gf ∧ ffOf w' gf = FP ∧ RsRd w' gn ∧ ffOf w' gn = NP ∧ FfTo w' (w.heap.size + 1) ∧ RsIn w' (w.heap.size + 1 + 1) ∧ InMo w X gf FP gn NP w')
          ((first
            | (exact InMo.out gF.1 gN.1 ⟨_, _, unhide HzF, unhide Hz5, (unhide HI4).drew⟩)
            | (exact InMo.out gF.1 gN.1 ⟨_, _, unhide HzF, unhide Hz5, unhide (by assumption : Hid (InMn w X ZF Z5 gf FP gn NP _))⟩)
            | (exact InMo.out gF.1 gN.1 ⟨_, _, gF.1, unhide Hz5, ((unhide (by assumption : Hid (InMn w X ZF Z5 gf FP gn NP _))).done FP NP).1⟩)
            | (exact InMo.out gF.1 gN.1 ⟨_, _, unhide HzF, gN.1, ((unhide (by assumption : Hid (InMn w X ZF Z5 gf FP gn NP _))).done FP NP).2⟩)
            | (exact InMo.out gF.1 gN.1 ⟨_, _, gF.1, gN.1, ((((unhide (by assumption : Hid (InMn w X ZF Z5 gf FP gn NP _))).done FP NP).1).done FP NP).2⟩)
            | (exact InMo.out gF.1 gN.1 ⟨_, _, gF.1, gN.1, ((((unhide (by assumption : Hid (InMn w X ZF Z5 gf FP gn NP _))).done FP NP).2).done FP NP).1⟩)))
          ((first
            | (go_at_call 82; rw [unhide HFP]; refine (header_any P _ (unhide HPO)).mono ?_; rintro e w7 ⟨rfl, hbel⟩; rw [← unhide HFP]; have HQ7 := hide (InMn.call (unhide (by assumption : Hid (InMn w X ZF Z5 gf FP gn NP _))) hbel))
            | (go_at_call 83; refine (rchk8 P _).mono ?_; rintro e w8 ⟨rfl, hbel⟩; have HQ8 := hide (InMn.call (unhide (by assumption : Hid (InMn w X ZF Z5 gf FP gn NP _))) hbel))))
        all_goals go_split_ands
        all_goals go_wp2_with fail
        all_goals go_meet
        all_goals (case rel => exact ⟨by rw [unhide HG, ← chk_same (chk 8 P) C lU], ((unhide (by assumption : Hid (InMn w X ZF Z5 gf FP gn NP w8))).all.all.putF FP).putN NP⟩)
      case rest =>
        obtain ⟨rfl, I5⟩ := hcut
        have HI5 := hide I5
        clear I5 HI4
        go_wp2_with fail
        exact ret_cells2 (c1 := FP) (c2 := NP) Tryz.results57 rfl rfl (unhide HI5).two (unhide HI5).three Tryz.underlying120 rfl (by rw [gF.1]; exact infoFf) Tryz.underlying128 rfl (by rw [gN.1]; exact infoRs) rfl ⟨by rw [← unhide HP, ← unhide HN, ← unhide HFP, ← unhide HNP, unhide HK, unhide HC]; show Ending.returned (.tuple #[.agg FP, .agg NP, .bool G]) = _; rw [unhide HG]; rfl, (unhide HI5).below⟩

set_option maxRecDepth 100000 in
set_option maxHeartbeats 8000000 in
theorem made_2 (x : Rc) (c : Rx) (l : List UInt8) (w : World) (hc : c.ok) (hr : x.src = c.src ∧ x.dst = c.dst ∧ x.port = c.port) (h : Shape l) (hk : byteN l 0 / 64 = 2) (hl : l.length ≤ 1000) :
    Calls Tryz.prog 57 #[.agg x.cells, .string (bs l)] w fun e w' => MadeIs w c l e w' := by
  obtain ⟨m1, m2, m3⟩ := made_full hc h hk
  have hle : 13 ≤ l.length := by have := h.least; rw [hk] at this; exact this
  have kd : (shapeF l).kind = 2 := (shapeF_parts l).1.trans hk
  have s0 : 0 < (bs l).size := by rw [bs_size]; omega
  have b0 := byte_at l 0 (by omega) s0
  have l0 := byteN_lt l 0
  obtain ⟨B, hB⟩ : ∃ B, B = byteN l 0 := ⟨_, rfl⟩
  rw [← hB] at b0 l0 hk
  have d1 : (B : Int).tdiv 64 = 2 := by rw [Int.tdiv_eq_ediv_of_nonneg (by omega)]; omega
  have d2 : (B : Int) / 64 = 2 := by omega
  obtain ⟨P, hP⟩ : ∃ P, P = madeN c (shapeF l) := ⟨_, rfl⟩
  obtain ⟨n, hn⟩ : ∃ n, n = (followN c (shapeF l)).st := ⟨_, rfl⟩
  have hPok : P.ok := by rw [hP]; exact madeN_ok hc (readF_ok (readF_shape h)).1
  rw [← hP] at m1 m2
  rw [← hn] at m2
  have HP := hide hP
  have HN := hide hn
  have HM1 := hide m1
  have HM2 := hide m2
  have HM3 := hide m3
  have HK := hide kd
  have HPO := hide hPok
  obtain ⟨X, hX⟩ : ∃ X, X = x.cells := ⟨_, rfl⟩
  have x1 : X[1]? = some (.int .u32 (x.src : Int)) := by rw [hX]; rfl
  have x2 : X[2]? = some (.int .u32 (x.dst : Int)) := by rw [hX]; rfl
  have x3 : X[3]? = some (.int .u16 (x.port : Int)) := by rw [hX]; rfl
  rw [← hX]
  obtain ⟨ZF, hZF⟩ : ∃ ZF : Array Value, ZF = zeroP.flat := ⟨_, rfl⟩
  have zvF : ∀ w, (zeroValue 120).run Tryz.prog w = .ok (.agg ZF) w := by rw [hZF]; intro w; exact Tryz.zeroValue120 w
  obtain ⟨Z5, hZ5⟩ : ∃ Z5 : Array Value, Z5 = St.zero.flat := ⟨_, rfl⟩
  have zv5 : ∀ w, (zeroValue 128).run Tryz.prog w = .ok (.agg Z5) w := by rw [hZ5]; intro w; exact Tryz.zeroValue128 w
  have HZF := hide hZF
  have HZ5 := hide hZ5
  obtain ⟨FP, hFP⟩ : ∃ FP, FP = P.flat := ⟨_, rfl⟩
  obtain ⟨NP, hNP⟩ : ∃ NP, NP = n.flat := ⟨_, rfl⟩
  have gF : GoodFf FP := by rw [hFP]; exact Pk.goodFf P
  have gN : GoodRs NP := by rw [hNP]; exact St.goodRs n
  have HFP := hide hFP
  have HNP := hide hNP
  have HI0 := hide (InM.start w X ZF Z5)
  have HA : ∀ w : World, Calls Tryz.prog 92 #[.int .i64 2] w fun e w' => e = .returned (.int .i64 13) ∧ w' = w := fun w => ahead_any 2 w (by omega)
  have HA' := hide HA
  have HRR := hide hr
  clear hr hX hZF hZ5 hP hn hPok m1 m2 m3 kd hFP hNP hB HA hk h hc
  go_enter Tryz.func57, Tryz.ntmps57
  go_upto_region 9 with ((go_at_call 92; refine (unhide HA' _).mono ?_; rintro e w1 ⟨rfl, h1⟩; have h1 := h1.symm; subst h1))
  have eW : (((w.alloc (.cells X 126)).alloc (.cells ZF 120)).alloc (.cells Z5 128)).heap.size = w.heap.size + 1 + 1 + 1 := by simp
  have RB2 := heap_alloc_new (((w.alloc (.cells X 126)).alloc (.cells ZF 120)).alloc (.cells Z5 128)) (.cells #[.int .u32 (x.src : Int), .int .u32 (x.dst : Int), .int .u16 (x.port : Int)] 41)
  rw [eW] at RB2
  have I2 := (unhide HI0).call ((Below.refl _ _).alloc (Nat.le_refl _) (.cells #[.int .u32 (x.src : Int), .int .u32 (x.dst : Int), .int .u16 (x.port : Int)] 41))
  have HPW := hide (show P = withP x.src x.dst x.port ((l.drop 1).take 9) (l.drop 13) by rw [unhide HM1, (unhide HRR).1, (unhide HRR).2.1, (unhide HRR).2.2])
  clear HI0 eW HM1 x1 x2 x3
  generalize (((w.alloc (.cells X 126)).alloc (.cells ZF 120)).alloc (.cells Z5 128)).alloc (.cells #[.int .u32 (x.src : Int), .int .u32 (x.dst : Int), .int .u16 (x.port : Int)] 41) = w2 at RB2 I2 ⊢
  generalize w.heap.size + 1 + 1 + 1 = gr at RB2 ⊢
  have r0 : w2.cell? ⟨gr, 0, none⟩ = some (.int .u32 (x.src : Int)) := block_cell RB2 0
  have r1 : w2.cell? ⟨gr, 1, none⟩ = some (.int .u32 (x.dst : Int)) := block_cell RB2 1
  have r2 : w2.cell? ⟨gr, 2, none⟩ = some (.int .u16 (x.port : Int)) := block_cell RB2 2
  have r0d : w2.drew.cell? ⟨gr, 0, none⟩ = some (.int .u32 (x.src : Int)) := r0
  have r1d : w2.drew.cell? ⟨gr, 1, none⟩ = some (.int .u32 (x.dst : Int)) := r1
  have r2d : w2.drew.cell? ⟨gr, 2, none⟩ = some (.int .u16 (x.port : Int)) := r2
  have hgr : gr < w2.heap.size := block_lt RB2
  have t9 : ((l.drop 1).take 9).length = 9 := by rw [List.length_take, List.length_drop]; omega
  have HI2 := hide I2
  clear RB2 I2
  obtain ⟨U, hU⟩ : ∃ U, U = l.drop 1 := ⟨_, rfl⟩
  have hUl : U.length = l.length - 1 := by rw [hU, List.length_drop]
  rw [← hU] at t9 HPW
  rw [show l.tail = U by rw [hU, List.drop_one]]
  have HU := hide hU
  clear hU
  go_cut [11] (fun v wx => ∃ gf, v = .pointer (some ⟨gf, 0, none⟩) ∧ InMf w X ZF Z5 gf FP wx)
  case first =>
    have gA : ∀ w : World, FfTo (w.alloc (.cells ZF 120)) w.heap.size := fun w => ⟨_, _, heap_alloc_new w _, by rw [unhide HZF]; rfl⟩
    go_region_with ((go_at_call 94; refine (with_any x.src x.dst x.port _ _ _ t9).mono ?_; rintro e w5 ⟨rfl, hbel⟩; rw [← unhide HPW, ← unhide HFP]; first | (have HT5 := hide (InMf.call (InMf.new (unhide HI2).drew ZF) hbel); have gz : FfTo w5 w2.heap.size := ⟨_, _, (unhide HT5).fl, by rw [unhide HZF]; rfl⟩; clear hbel) | (have HI5 := hide (InM.call (unhide HI2).drew hbel); clear hbel)))
    all_goals
      first
        | (have HF := hide ((unhide HT5).put FP); go_wp2_with fail; go_meet; case rel => exact ⟨_, rfl, unhide HF⟩)
        | (have HF := hide ((InMf.new (unhide HI5) ZF).put FP); go_wp2_with fail; go_meet; case rel => exact ⟨_, rfl, unhide HF⟩)
  case rest =>
    obtain ⟨gf, rfl, I3⟩ := hcut
    clear HI2 r0 r1 r2 r0d r1d r2d
    obtain ⟨sd, hsd⟩ : ∃ sd, sd = numOf ((U.take 11).drop 9) := ⟨_, rfl⟩
    have hsd2 : sd < 65536 := by rw [hsd]; exact numOf_lt' 2 (by simp; omega)
    have hnum : (bs ((U.take 11).drop 9)).size ≤ 7 := by rw [bs_size]; simp; omega
    have hbl : (bs ((U.take 11).drop 9)).data.toList = (U.take 11).drop 9 := bs_list _
    have HSD := hide hsd
    have HM2' := hide (show n = stateN P sd by rw [unhide HM2, hsd, unhide HU])
    have u1 : ∀ W : World, W.heap[gf]? = some (.cells FP 120 (0, 0)) → FfIn W gf ∧ ffOf W gf = FP := fun W hW => ⟨⟨_, _, _, hW, gF.1⟩, by unfold ffOf; rw [hW]⟩
    have y1 : FfIn wc.drew gf := (u1 _ I3.fl).1
    have y2 : ffOf wc.drew gf = FP := (u1 _ I3.fl).2
    have y1a : ∀ O, FfIn (wc.drew.alloc O) gf := fun O => (u1 _ (block_alloc (show wc.drew.heap[gf]? = _ from I3.fl) O)).1
    have y2a : ∀ O, ffOf (wc.drew.alloc O) gf = FP := fun O => (u1 _ (block_alloc (show wc.drew.heap[gf]? = _ from I3.fl) O)).2
    have y1b : ∀ O, FfIn (wc.alloc O).drew gf := fun O => (u1 _ (show (wc.alloc O).drew.heap[gf]? = _ from block_alloc I3.fl O)).1
    have y2b : ∀ O, ffOf (wc.alloc O).drew gf = FP := fun O => (u1 _ (show (wc.alloc O).drew.heap[gf]? = _ from block_alloc I3.fl O)).2
    have HI3 := hide I3
    clear I3 hsd HM2 u1
    go_upto_region 10 with fail
    go_cut [12] (fun v wx => ∃ gn, v = .pointer (some ⟨gn, 0, none⟩) ∧ InMn w X ZF Z5 gf FP gn NP wx)
    case first =>
      have gA : ∀ w : World, RsIn (w.alloc (.cells Z5 128)) w.heap.size := fun w => ⟨_, _, heap_alloc_new w _, by rw [unhide HZ5]; rfl⟩
      go_region_with ((first
        | (go_at_call 95; refine (number_any _ _ hnum).mono ?_; rintro e w5 ⟨rfl, h5⟩; have h5 := h5.symm; subst h5; rw [hbl, ← unhide HSD])
        | (go_at_call 77; rw [unhide HFP]; refine (rstateOf_any P sd _ (unhide HPO) hsd2).mono ?_; rintro e w6 ⟨rfl, hbel⟩; rw [← unhide HFP, ← unhide HM2', ← unhide HNP]; first | (have HT6 := hide (InMn.call (InMn.new (unhide HI3).drew Z5) hbel); have gz : RsIn w6 wc.heap.size := ⟨_, _, (unhide HT6).st, by rw [unhide HZ5]; rfl⟩; clear hbel) | (have HI6 := hide (InMf.call (unhide HI3).drew hbel); clear hbel))))
      all_goals
        first
          | (have HF := hide ((unhide HT6).put NP); go_wp2_with fail; go_meet; case rel => exact ⟨_, rfl, unhide HF⟩)
          | (have HF := hide ((InMn.new (unhide HI6) Z5).put NP); go_wp2_with fail; go_meet; case rel => exact ⟨_, rfl, unhide HF⟩)
    case rest =>
      obtain ⟨gn, rfl, I4⟩ := hcut
      clear y1 y2 y1a y2a y1b y2b HI3
      have sU : 11 < (bs U).size := by rw [bs_size]; omega
      have bU := byte_at U 11 (by omega) sU
      have lU := byteN_lt U 11
      obtain ⟨C, hC⟩ : ∃ C, C = byteN U 11 := ⟨_, rfl⟩
      rw [← hC] at bU lU
      have HC := hide (show (shapeF l).chk = C by rw [unhide HM3, hC, unhide HU, byteN_drop])
      have HI4 := hide I4
      clear hC I4
      go_upto_region 11 with fail
      obtain ⟨G, hG⟩ : ∃ G : Bool, G = decide (chk 8 P = C) := ⟨_, rfl⟩
      have HG := hide hG
      clear hG
      have hzF : ZF.size = 8 := by rw [unhide HZF]; rfl
      have hz5 : Z5.size = 5 := by rw [unhide HZ5]; rfl
      have HzF := hide hzF
      have Hz5 := hide hz5
      clear hzF hz5
      go_cut [6] (fun v wx => v = .bool G ∧ InM w X FP NP wx)
      case first =>
        have HQ := hide (unhide HI4).drew
        go_region_held3 (fun w' => FfIn w' gf ∧ ffOf w' gf = FP ∧ RsRd w' gn ∧ ffOf w' gn = NP ∧ FfTo w' (w.heap.size + 1) ∧ RsIn w' (w.heap.size + 1 + 1) ∧ InMo w X gf FP gn NP w')
          ((first
            | (exact InMo.out gF.1 gN.1 ⟨_, _, unhide HzF, unhide Hz5, (unhide HI4).drew⟩)
            | (exact InMo.out gF.1 gN.1 ⟨_, _, unhide HzF, unhide Hz5, unhide (by assumption : Hid (InMn w X ZF Z5 gf FP gn NP _))⟩)
            | (exact InMo.out gF.1 gN.1 ⟨_, _, gF.1, unhide Hz5, ((unhide (by assumption : Hid (InMn w X ZF Z5 gf FP gn NP _))).done FP NP).1⟩)
            | (exact InMo.out gF.1 gN.1 ⟨_, _, unhide HzF, gN.1, ((unhide (by assumption : Hid (InMn w X ZF Z5 gf FP gn NP _))).done FP NP).2⟩)
            | (exact InMo.out gF.1 gN.1 ⟨_, _, gF.1, gN.1, ((((unhide (by assumption : Hid (InMn w X ZF Z5 gf FP gn NP _))).done FP NP).1).done FP NP).2⟩)
            | (exact InMo.out gF.1 gN.1 ⟨_, _, gF.1, gN.1, ((((unhide (by assumption : Hid (InMn w X ZF Z5 gf FP gn NP _))).done FP NP).2).done FP NP).1⟩)))
          ((first
            | (go_at_call 82; rw [unhide HFP]; refine (header_any P _ (unhide HPO)).mono ?_; rintro e w7 ⟨rfl, hbel⟩; rw [← unhide HFP]; have HQ7 := hide (InMn.call (unhide (by assumption : Hid (InMn w X ZF Z5 gf FP gn NP _))) hbel))
            | (go_at_call 83; refine (rchk8 P _).mono ?_; rintro e w8 ⟨rfl, hbel⟩; have HQ8 := hide (InMn.call (unhide (by assumption : Hid (InMn w X ZF Z5 gf FP gn NP _))) hbel))))
        all_goals go_split_ands
        all_goals go_wp2_with fail
        all_goals go_meet
        all_goals (case rel => exact ⟨by rw [unhide HG, ← chk_same (chk 8 P) C lU], ((unhide (by assumption : Hid (InMn w X ZF Z5 gf FP gn NP w8))).all.all.putF FP).putN NP⟩)
      case rest =>
        obtain ⟨rfl, I5⟩ := hcut
        have HI5 := hide I5
        clear I5 HI4
        go_wp2_with fail
        exact ret_cells2 (c1 := FP) (c2 := NP) Tryz.results57 rfl rfl (unhide HI5).two (unhide HI5).three Tryz.underlying120 rfl (by rw [gF.1]; exact infoFf) Tryz.underlying128 rfl (by rw [gN.1]; exact infoRs) rfl ⟨by rw [← unhide HP, ← unhide HN, ← unhide HFP, ← unhide HNP, unhide HK, unhide HC]; show Ending.returned (.tuple #[.agg FP, .agg NP, .bool G]) = _; rw [unhide HG]; rfl, (unhide HI5).below⟩

end Go.Proofs.YtgpojbgjfibblabGreat.texts
