/-
  The walk of the program's Send (package sender).
  Conditions stand in each theorem.
-/
import Derived.Test.YtgpojbgjfibblabGreatSndWalk
import Derived.Deep.DeepCutAuto
namespace Go.Proofs.YtgpojbgjfibblabGreat.texts
open Go.RowKit
set_option linter.unusedVariables false
attribute [local go_sem ↓] Go.wp_at_zero Go.wp_at_succ
attribute [local go_sem ↓] loadCx_eq
attribute [local go_sem] run_loadCx
attribute [local go_sem] bs_size

/-- the sender, the packet and the context that is at work in memory -/
structure InS (w : World) (b : Nat) (m : Snd) (p : Pk) (g : Nat) (c : Cx) (w1 : World) : Prop where
  snd : SndAt w1 b m
  pk : w1.heap[w.heap.size]? = some (.cells p.cells 43 (0, 0))
  cx : w1.heap[g]? = some (.cells c.cells 75 (0, 0))
  gb : w.heap.size < g
  bb : b < w.heap.size
  only : Only (· = b) w w1
theorem InS.call {w w1 w2 : World} {b g : Nat} {m : Snd} {p : Pk} {c : Cx} (h : InS w b m p g c w1) (hb : Below w1.heap.size w1 w2) : InS w b m p g c w2 :=
  ⟨block_keep h.snd hb, block_keep h.pk hb, block_keep h.cx hb, h.gb, h.bb, h.only.trans (Only.of_below hb)⟩
theorem InS.drew {w w1 : World} {b g : Nat} {m : Snd} {p : Pk} {c : Cx} (h : InS w b m p g c w1) : InS w b m p g c w1.drew := ⟨h.snd, h.pk, h.cx, h.gb, h.bb, h.only.drew⟩
theorem Only.new {S : Nat → Prop} {a w : World} (h : Only S a w) {g : Nat} (hg : a.heap.size ≤ g) (C : Array Value) : Only S a (w.setRow g C) :=
  ⟨h.os, h.tape, h.output, by simpa using h.size, fun k hk hs => by rw [setRow_other _ _ _ _ (by omega)]; exact h.block k hk hs⟩
theorem Only.alloc {S : Nat → Prop} {a w : World} (h : Only S a w) (o : Obj) : Only S a (w.alloc o) :=
  h.trans (Only.of_below ((Below.refl _ _).alloc (Nat.le_refl _) o))
theorem InS.put {w w1 : World} {b g : Nat} {m : Snd} {p : Pk} {c : Cx} (h : InS w b m p g c w1) (c' : Cx) : InS w b m p g c' (w1.setRow g c'.cells) :=
  have hg := h.gb
  have hb := h.bb
  ⟨by rw [SndAt, setRow_other _ _ _ _ (by omega)]; exact h.snd, by rw [setRow_other _ _ _ _ (by omega)]; exact h.pk, setRow_heap _ _ _ _ _ _ h.cx, h.gb, h.bb, h.only.new (by omega) _⟩
theorem block_cxIn {w : World} {g : Nat} {c : Cx} {t : TypeId} {fr : Nat × Nat} (h : w.heap[g]? = some (.cells c.cells t fr)) : CxIn w g 0 := ⟨_, _, _, h, by rw [Cx.cells_size]; omega⟩
theorem block_cxOf {w : World} {g : Nat} {c : Cx} {t : TypeId} {fr : Nat × Nat} (h : w.heap[g]? = some (.cells c.cells t fr)) : cxOf w g 0 = c.cells := by
  unfold cxOf
  rw [h]
  simp only [List.drop_zero]
  rw [List.take_of_length_le (by rw [Array.length_toList, Cx.cells_size]; omega)]
theorem InS.out {w w1 : World} {b g : Nat} {m : Snd} {p : Pk} {c : Cx} (h : InS w b m p g c w1) {C : Array Value} (hC : C = c.cells) :
    CxIn w1 g 0 ∧ cxOf w1 g 0 = C ∧ w1.cell? ⟨w.heap.size, 0, none⟩ = some (.int .u32 p.src) ∧ w1.cell? ⟨w.heap.size, 1, none⟩ = some (.int .u32 p.dst) ∧ w1.cell? ⟨w.heap.size, 2, none⟩ = some (.int .u16 p.port) ∧ w1.cell? ⟨w.heap.size, 3, none⟩ = some (.int .u16 p.seq) ∧ w1.cell? ⟨w.heap.size, 4, none⟩ = some (.int .u32 p.time) ∧ w1.cell? ⟨w.heap.size, 5, none⟩ = some (.int .u16 p.id) ∧ w1.cell? ⟨w.heap.size, 6, none⟩ = some (.int .u8 p.flags) ∧ w1.cell? ⟨w.heap.size, 7, none⟩ = some (.string (bs p.body)) ∧ w1.cell? ⟨b, 1, none⟩ = some (.int .i64 m.keep) ∧ w1.cell? ⟨b, 2, none⟩ = some (.int .i64 m.refresh) ∧ InS w b m p g c w1 := by
  refine ⟨block_cxIn h.cx, by rw [hC]; exact block_cxOf h.cx, ?_, ?_, ?_, ?_, ?_, ?_, ?_, ?_, (block_cell h.snd 1).trans (Snd.get0 m 1 (by omega)), (block_cell h.snd 2).trans (Snd.get0 m 2 (by omega)), h⟩
  all_goals (rw [block_cell h.pk]; rfl)

/-- a context is stored into a block of its own, kept whole -/
def storeCx (v u : Value) : Sem Unit := Instr.storeAt 75 v u
theorem storeCx_eq (v u : Value) : Instr.storeAt 75 v u = storeCx v u := rfl
def rowOf (w : World) (g : Nat) : Array Value := match w.heap[g]? with | some (.cells c _ _) => c | _ => #[]
def StIn (w : World) (g o : Nat) : Prop := ∃ c t, w.heap[g]? = some (.cells c t (0, 0)) ∧ o + 30 ≤ c.size
def GoodCx (C : Array Value) : Prop := C.size = 30 ∧ C.all (·.oneCell') = true
theorem run_storeCx (w : World) (g o : Nat) (C : Array Value) (h : StIn w g o) (hC : GoodCx C) : (storeCx (.pointer (some ⟨g, o, none⟩)) (.agg C)).run Tryz.prog w = .ok () (w.setRow g (putRow (rowOf w g) o C.toList)) := by
  obtain ⟨c, t, h1, h2⟩ := h
  have e : rowOf w g = c := by unfold rowOf; rw [h1]
  have := run_storeAt_mid (P := Tryz.prog) w g o 75 C (there_block h1 o _ (by rw [hC.1]; exact h2)) (by rw [infoCx, hC.1]) hC.2
  rw [setCells_eq _ w c o h1] at this
  rw [e]
  exact this
theorem setRow_alloc_new' (w : World) (c c' : Array Value) (t : TypeId) : (w.alloc (.cells c t)).setRow w.heap.size c' = w.alloc (.cells c' t) := by
  simp only [World.setRow, World.alloc]
  congr 1
  apply Array.ext_getElem?
  intro i
  rw [Array.getElem?_modify]
  by_cases h : w.heap.size = i
  · subst h
    simp
  · have h' : ¬ i = w.heap.size := fun e => h e.symm
    simp [h, h', Array.getElem?_push]
theorem run_storeCx_new (w : World) (C Z : Array Value) (t : TypeId) (hC : GoodCx C) (hZ : Z.size = 30) : (storeCx (.pointer (some ⟨w.heap.size, 0, none⟩)) (.agg C)).run Tryz.prog (w.alloc (.cells Z t)) = .ok () (w.alloc (.cells C t)) := by
  have h1 := run_storeVar_row (P := Tryz.prog) (w.alloc (.cells Z t)) w.heap.size t 75 Z C (heap_alloc_new w _) (by rw [infoCx, hC.1]) (by rw [hC.1, hZ]) hC.2
  rw [setRow_alloc_new'] at h1
  simp only [storeCx, Instr.storeAt, Instr.sureAddr, Sem.run_bind, Sem.run_pure, Result.andThen_ok, h1]
theorem Cx.good (c : Cx) : GoodCx c.cells := ⟨Cx.cells_size c, Cx.cells_one c⟩
theorem put_all (C D : Array Value) (hC : C.size = 30) (hD : D.size = 30) : putRow C 0 D.toList = D := by
  apply Array.ext_getElem?
  intro k
  rw [putRow_get _ _ _ _ (by rw [Array.length_toList]; omega), Array.length_toList]
  by_cases hk : k < 30
  · rw [if_pos (by omega)]; simp
  · rw [if_neg (by omega), Array.getElem?_eq_none (by omega), Array.getElem?_eq_none (by omega)]
attribute [local go_sem ↓] storeCx_eq
attribute [local go_sem] run_storeCx

/-- and the packet's state -/
structure InT (w : World) (b : Nat) (m : Snd) (p : Pk) (g : Nat) (c : Cx) (s : Nat) (n : St) (w1 : World) : Prop where
  all : InS w b m p g c w1
  st : w1.heap[s]? = some (.cells n.cells 72 (0, 0))
  sb : w.heap.size < s
  sg : s ≠ g
theorem InT.call {w w1 w2 : World} {b g s : Nat} {m : Snd} {p : Pk} {c : Cx} {n : St} (h : InT w b m p g c s n w1) (hb : Below w1.heap.size w1 w2) : InT w b m p g c s n w2 :=
  ⟨h.all.call hb, block_keep h.st hb, h.sb, h.sg⟩
theorem InT.drew {w w1 : World} {b g s : Nat} {m : Snd} {p : Pk} {c : Cx} {n : St} (h : InT w b m p g c s n w1) : InT w b m p g c s n w1.drew := ⟨h.all.drew, h.st, h.sb, h.sg⟩
theorem InT.out {w w1 : World} {b g s : Nat} {m : Snd} {p : Pk} {c : Cx} {n : St} (h : InT w b m p g c s n w1) {C : Array Value} (hC : C = c.cells) :
    CxIn w1 g 0 ∧ cxOf w1 g 0 = C ∧ w1.cell? ⟨w.heap.size, 0, none⟩ = some (.int .u32 p.src) ∧ w1.cell? ⟨w.heap.size, 1, none⟩ = some (.int .u32 p.dst) ∧ w1.cell? ⟨w.heap.size, 2, none⟩ = some (.int .u16 p.port) ∧ w1.cell? ⟨w.heap.size, 3, none⟩ = some (.int .u16 p.seq) ∧ w1.cell? ⟨w.heap.size, 4, none⟩ = some (.int .u32 p.time) ∧ w1.cell? ⟨w.heap.size, 5, none⟩ = some (.int .u16 p.id) ∧ w1.cell? ⟨w.heap.size, 6, none⟩ = some (.int .u8 p.flags) ∧ w1.cell? ⟨w.heap.size, 7, none⟩ = some (.string (bs p.body)) ∧ w1.cell? ⟨b, 1, none⟩ = some (.int .i64 m.keep) ∧ w1.cell? ⟨b, 2, none⟩ = some (.int .i64 m.refresh) ∧ w1.cell? ⟨s, 0, none⟩ = some (.int .u16 n.seq) ∧ w1.cell? ⟨s, 1, none⟩ = some (.int .u16 n.stride) ∧ w1.cell? ⟨s, 2, none⟩ = some (.int .u16 n.offset) ∧ w1.cell? ⟨s, 3, none⟩ = some (.int .u32 n.lag) ∧ w1.cell? ⟨s, 4, none⟩ = some (.int .u8 n.flags) ∧ InT w b m p g c s n w1 := by
  obtain ⟨y1, y2, q0, q1, q2, q3, q4, q5, q6, q7, d1, d2, I1⟩ := h.all.out hC
  obtain ⟨s0, s1, s2, s3, s4⟩ := st_cells h.st
  exact ⟨y1, y2, q0, q1, q2, q3, q4, q5, q6, q7, d1, d2, s0, s1, s2, s3, s4, h⟩
/-- a state is stored into a block of its own, kept whole -/
def storeSt (v u : Value) : Sem Unit := Instr.storeAt 72 v u
theorem storeSt_eq (v u : Value) : Instr.storeAt 72 v u = storeSt v u := rfl
def StIn5 (w : World) (g : Nat) : Prop := ∃ s : St, ∃ t, w.heap[g]? = some (.cells s.cells t (0, 0))
def GoodSt (C : Array Value) : Prop := C.size = 5 ∧ C.all (·.oneCell') = true
theorem run_storeSt (w : World) (g : Nat) (C : Array Value) (h : StIn5 w g) (hC : GoodSt C) : (storeSt (.pointer (some ⟨g, 0, none⟩)) (.agg C)).run Tryz.prog w = .ok () (w.setRow g C) := by
  obtain ⟨s, t, h1⟩ := h
  have h2 := run_storeVar_row (P := Tryz.prog) w g t 72 s.cells C h1 (by rw [infoSt, hC.1]) (by rw [hC.1]; rfl) hC.2
  simp only [storeSt, Instr.storeAt, Instr.sureAddr, Sem.run_bind, Sem.run_pure, Result.andThen_ok, h2]
theorem St.good (s : St) : GoodSt s.cells := ⟨rfl, St.cells_one s⟩
theorem InT.new {w w1 : World} {b g : Nat} {m : Snd} {p : Pk} {c : Cx} (h : InS w b m p g c w1) {Z : Array Value} (hZ : Z = St.zero.cells) : InT w b m p g c w1.heap.size St.zero (w1.alloc (.cells Z 72)) :=
  have h1 := block_lt h.pk
  have h2 := block_lt h.cx
  ⟨h.call ((Below.refl _ _).alloc (Nat.le_refl _) _), by rw [← hZ]; exact heap_alloc_new w1 _, h1, by omega⟩
theorem InT.put {w w1 : World} {b g s : Nat} {m : Snd} {p : Pk} {c : Cx} {n : St} (h : InT w b m p g c s n w1) (n' : St) : InT w b m p g c s n' (w1.setRow s n'.cells) :=
  have hs := h.sb
  have hb := h.all.bb
  have hg := h.sg
  ⟨⟨by rw [SndAt, setRow_other _ _ _ _ (by omega)]; exact h.all.snd, by rw [setRow_other _ _ _ _ (by omega)]; exact h.all.pk, by rw [setRow_other _ _ _ _ (fun e => hg e.symm)]; exact h.all.cx, h.all.gb, h.all.bb, h.all.only.new (by omega) _⟩, setRow_heap _ _ _ _ _ _ h.st, h.sb, h.sg⟩
theorem drew_size (w : World) : w.drew.heap.size = w.heap.size := rfl
theorem InT.in5 {w w1 : World} {b g s : Nat} {m : Snd} {p : Pk} {c : Cx} {n : St} (h : InT w b m p g c s n w1) : StIn5 w1 s := ⟨n, _, h.st⟩
attribute [local go_sem ↓] storeSt_eq
attribute [local go_sem] run_storeSt

/-- the sender has turned, all else stands -/
theorem InT.turn {w w1 w2 : World} {b g s : Nat} {m m2 : Snd} {p : Pk} {c : Cx} {n : St} (h : InT w b m p g c s n w1) (h2 : SndAt w2 b m2) (ho : Only (· = b) w1 w2) : InT w b m2 p g c s n w2 :=
  have hb := h.all.bb
  have hg := h.all.gb
  have hs := h.sb
  ⟨⟨h2, ho.keep h.all.pk (by omega), ho.keep h.all.cx (by omega), hg, hb, h.all.only.trans ho⟩, ho.keep h.st (by omega), hs, h.sg⟩

theorem fallN_ok {m : Snd} (hm : m.ok) {r : Nat} (hr : r ≤ 8) : (fallN m r).ok :=
  ⟨hm.c1, hm.c8, hm.k1, hm.k4, hm.r2, hm.r100, by simp [fallN, hm.len], fun d hd => by
    simp only [fallN, List.mem_map] at hd
    obtain ⟨c, hc, rfl⟩ := hd
    have o := hm.each c hc
    unfold fallC
    split
    · exact ⟨o.src, o.dst, o.port, o.turn, o.count, by simp only; omega, o.whole, o.full, o.age, o.s0, o.s1, o.s2, o.s3, o.kept⟩
    · exact o⟩
theorem InT.snd5 {w w1 : World} {b g s : Nat} {m : Snd} {p : Pk} {c : Cx} {n : St} (h : InT w b m p g c s n w1) : w1.cell? ⟨g, 5, none⟩ = some (.int .i64 c.rank) := by
  rw [block_cell h.all.cx]; rfl
theorem InT.stored {w w1 : World} {b g s : Nat} {m : Snd} {p : Pk} {c : Cx} {n : St} (h : InT w b m p g c s n w1) (k : Nat) (D : Cx) (hk : k < m.cs.length) : InT w b (m.set k D) p g c s n (w1.setRow b (putRow (rowOf w1 b) (3 + k * 30) D.cells.toList)) := by
  have h1 : w1.heap[b]? = some (.cells m.cells 82 (0, 0)) := h.all.snd
  have e : rowOf w1 b = m.cells := by unfold rowOf; rw [h1]
  rw [e, Nat.mul_comm k 30, Snd.put m k D hk]
  exact h.turn (setRow_heap _ _ _ _ _ _ h1) ((Only.refl (· = b) w1).setRow rfl _)
/-- what a store into the sender's contexts leaves as it is -/
structure InU (w : World) (b keep g : Nat) (c : Cx) (s : Nat) (n : St) (w1 : World) : Prop where
  kp : w1.cell? ⟨b, 1, none⟩ = some (.int .i64 keep)
  cx : w1.heap[g]? = some (.cells c.cells 75 (0, 0))
  st : w1.heap[s]? = some (.cells n.cells 72 (0, 0))
theorem InT.u {w w1 : World} {b g s : Nat} {m : Snd} {p : Pk} {c : Cx} {n : St} (h : InT w b m p g c s n w1) : InU w b m.keep g c s n w1 :=
  ⟨(block_cell h.all.snd 1).trans (Snd.get0 m 1 (by omega)), h.all.cx, h.st⟩
theorem InU.out {w w1 : World} {b g s keep : Nat} {c : Cx} {n : St} (h : InU w b keep g c s n w1) {C : Array Value} (hC : C = c.cells) :
    CxIn w1 g 0 ∧ cxOf w1 g 0 = C ∧ w1.cell? ⟨b, 1, none⟩ = some (.int .i64 keep) ∧ w1.cell? ⟨s, 0, none⟩ = some (.int .u16 n.seq) ∧ w1.cell? ⟨s, 1, none⟩ = some (.int .u16 n.stride) ∧ w1.cell? ⟨s, 2, none⟩ = some (.int .u16 n.offset) ∧ w1.cell? ⟨s, 3, none⟩ = some (.int .u32 n.lag) ∧ w1.cell? ⟨s, 4, none⟩ = some (.int .u8 n.flags) ∧ InU w b keep g c s n w1 := by
  obtain ⟨s0, s1, s2, s3, s4⟩ := st_cells h.st
  exact ⟨block_cxIn h.cx, by rw [hC]; exact block_cxOf h.cx, h.kp, s0, s1, s2, s3, s4, h⟩

set_option maxRecDepth 100000 in
set_option maxHeartbeats 4000000 in
theorem send_any (m : Snd) (b : Nat) (p : Pk) (w : World) (hm : m.ok) (h : SndAt w b m) (hp : p.ok) (hb : p.body.length ≤ 100) (hcnt : ∀ c ∈ m.cs, c.age + 1 < 4611686018427387904) :
    Calls Tryz.prog 42 #[.pointer (some ⟨b, 0, none⟩), .agg p.cells] w fun e w' => e = .returned (.tuple #[.string (bs (sendF m p)), .int .i64 0]) ∧ SndAt w' b (sendM m p) ∧ Only (· = b) w w' := by
  obtain ⟨Z, hZ⟩ : ∃ Z : Array Value, Z = Cx.cells ⟨0, 0, 0, 0, 0, 0, 0, 0, 0, St.zero, St.zero, St.zero, St.zero, 0⟩ := ⟨_, rfl⟩
  have zv : ∀ w, (zeroValue 75).run Tryz.prog w = .ok (.agg Z) w := by rw [hZ]; intro w; exact Tryz.zeroValue75 w
  have HZ := hide hZ
  clear hZ
  have hl := hm.len
  have HM := hide hm
  have HP := hide hp
  have H := hide h
  have HC := hide hcnt
  clear h hm hp hcnt
  obtain ⟨k, hk⟩ : ∃ k, k = chooseN m p.src p.dst p.port := ⟨_, rfl⟩
  have hk8 : k < 8 := by rw [hk]; exact chooseN_lt (unhide HM) _ _ _
  have k0 : (0 : Int) ≤ (k : Int) := by omega
  have k1 : (k : Int) < 8 := by omega
  have HK := hide hk
  clear hk
  unfold Pk.cells
  go_enter Tryz.func42, Tryz.ntmps42
  go_wp2_with fail
  have H0 := hide (block_alloc (unhide H) (.cells p.cells 43) : SndAt _ b m)
  go_at_call 67
  refine (choose_any m b _ _ _ _ (unhide HM) (unhide H0)).mono ?_
  rintro e w1 ⟨rfl, hb1⟩
  rw [← unhide HK]
  have H1 : SndAt w1 b m := block_keep (unhide H0) hb1
  have x1 := H1.cxIn k (by omega)
  have x2 := H1.cxOf k (by omega)
  have HP1 := hide (block_keep (heap_alloc_new w (.cells p.cells 43)) hb1)
  have HO1 := hide ((Only.of_below ((Below.refl _ _).alloc (Nat.le_refl _) _) : Only (· = b) w _).trans (Only.of_below hb1))
  have HB1 := hide hb1
  have HS1 := hide H1
  clear hb1 H0 H1
  obtain ⟨c0, hc0⟩ : ∃ c0, c0 = m.at_ k := ⟨_, rfl⟩
  rw [← hc0] at x2
  obtain ⟨C0, hC0⟩ : ∃ C0, C0 = c0.cells := ⟨_, rfl⟩
  rw [← hC0] at x2
  have gs := run_storeCx_new w1 C0 Z 75 (by rw [hC0]; exact Cx.good c0) (by rw [unhide HZ, Cx.cells_size])
  have hbw : b < w.heap.size := block_lt (unhide H)
  have hgw : w.heap.size < w1.heap.size := by have := (unhide HB1).size; simp at this; omega
  have I0 : InS w b m p w1.heap.size c0 (w1.alloc (.cells C0 75)) := ⟨block_alloc (unhide HS1) _, block_alloc (unhide HP1) _, by rw [hC0]; exact heap_alloc_new w1 _, hgw, hbw, (unhide HO1).alloc _⟩
  obtain ⟨g, hg⟩ : ∃ g, g = w1.heap.size := ⟨_, rfl⟩
  obtain ⟨y1, y2, q0, q1, q2, q3, q4, q5, q6, q7, d1, d2, I0⟩ := I0.out hC0
  have HI := hide I0
  have HC0 := hide hC0
  have Hc0 := hide hc0
  have hok0 : c0.ok := by rw [hc0]; exact Snd.at_ok (unhide HM) k
  have HOK0 := hide hok0
  clear hC0 hc0 I0 hg hok0 H
  go_upto_if 28 with (go_at_call 68; rw [unhide HC0]; refine (chas_any c0 p.src p.dst p.port _ (unhide HOK0)).mono ?_; rintro e w2 ⟨rfl, hb2⟩; rw [← unhide HC0] at hb2 ⊢; have HI1 := hide ((unhide HI).call hb2); clear hb2)
  clear HI y1 y2 q0 q1 q2 q3 q4 q5 q6 q7 d1 d2 gs x1 x2 I0
  obtain ⟨c, hc⟩ : ∃ c, c = metN m p := ⟨_, rfl⟩
  have hm1 : c = if c0.hasB p.src p.dst p.port = true then c0 else beginN c0 p.src p.dst p.port m.keep := by rw [hc, metN, ← unhide HK, ← unhide Hc0]
  have Hc := hide hc
  clear hc
  have HG := hide hgw
  clear hgw
  generalize w1.heap.size = g at *
  go_cut [7] (fun v wx => v = .pointer (some ⟨g, 0, none⟩) ∧ InS w b m p g c wx)
  case first =>
    cases hh : c0.hasB p.src p.dst p.port with
    | true =>
      rw [hh, if_pos rfl] at hm1
      rw [← hm1] at HI1
      clear hm1
      go_wp2_with fail
      go_meet
      case rel => exact ⟨rfl, unhide HI1⟩
    | false =>
      rw [hh, if_neg (by decide)] at hm1
      obtain ⟨y1, y2, q0, q1, q2, q3, q4, q5, q6, q7, d1, d2, I1⟩ := (unhide HI1).drew.out (unhide HC0)
      have HI2 := hide I1
      have HM1 := hide hm1
      have gc := Cx.good (beginN c0 p.src p.dst p.port m.keep)
      clear I1 hm1
      go_wp2_with fail
      go_region_with ((go_at_call 69; rw [unhide HC0]; refine (cbegin_any c0 p.src p.dst p.port m.keep _ (unhide HOK0)).mono ?_; rintro e w3 ⟨rfl, hb3⟩; have I3 := (unhide HI2).call hb3; have gz : StIn w3 g 0 := ⟨_, _, I3.cx, by rw [Cx.cells_size]; omega⟩; have HI3 := hide I3; clear I3 hb3))
      all_goals
        have e3 : putRow (rowOf w3 g) 0 (beginN c0 p.src p.dst p.port m.keep).cells.toList = c.cells := by
          have e : rowOf w3 g = c0.cells := by unfold rowOf; rw [(unhide HI3).cx]
          rw [e, ← unhide HM1]
          exact put_all _ _ (Cx.cells_size _) (Cx.cells_size _)
        rw [e3]
        have HI := hide ((unhide HI3).put c)
        generalize w3.setRow g c.cells = w4 at HI ⊢
        go_wp2_with fail
        go_meet
        case rel => exact ⟨rfl, unhide HI⟩
  case rest =>
    obtain ⟨rfl, I2⟩ := hcut
    have hcok : c.ok ∧ c.age + 1 < 4611686018427387904 := by
      rw [hm1]
      split
      · refine ⟨unhide HOK0, ?_⟩
        rw [unhide Hc0]
        exact (unhide HC) _ (Snd.at_mem (by omega))
      · have o := unhide HP
        exact ⟨beginN_ok (unhide HOK0) o.src o.dst o.port (unhide HM).k4, by simp [beginN]⟩
    have HCK := hide hcok
    clear hm1 hcok HI1 HOK0 HC0 HS1 HB1 HO1 HP1
    obtain ⟨C, hC⟩ : ∃ C, C = c.cells := ⟨_, rfl⟩
    have HI0 := hide I2
    obtain ⟨y1, y2, q0, q1, q2, q3, q4, q5, q6, q7, d1, d2, I2⟩ := I2.drew.out hC
    have HCC := hide hC
    have HI2 := hide I2
    clear hC I2
    obtain ⟨n, hn⟩ : ∃ n, n = stateN p (strideN c p) := ⟨_, rfl⟩
    have hst : strideN c p < 65536 := strideN_lt (unhide HCK).1 p
    have hnok : n.ok := by rw [hn]; exact stateN_ok (unhide HP) hst
    have HNO := hide hnok
    have HNN := hide hn
    have HST := hide hst
    clear hn hnok hst
    go_upto_region 7 with fail
    go_cut [8] (fun v wx => ∃ s, v = .pointer (some ⟨s, 0, none⟩) ∧ InT w b m p g c s n wx)
    case first =>
      obtain ⟨N, hN⟩ : ∃ N, N = n.cells := ⟨_, rfl⟩
      have gn : GoodSt N := by rw [hN]; exact St.good n
      have HNC := hide hN
      clear hN
      obtain ⟨Z5, hZ5⟩ : ∃ Z : Array Value, Z = St.zero.cells := ⟨_, rfl⟩
      have zv5 : ∀ w, (zeroValue 72).run Tryz.prog w = .ok (.agg Z5) w := by rw [hZ5]; intro w; exact Tryz.zeroValue72 w
      have HZ5 := hide hZ5
      clear hZ5
      have gA : ∀ w : World, StIn5 (w.alloc (.cells Z5 72)) w.heap.size := fun w => ⟨St.zero, _, by rw [← unhide HZ5]; exact heap_alloc_new w _⟩
      go_region_held3 (fun w' => CxIn w' g 0 ∧ cxOf w' g 0 = C ∧ w'.cell? ⟨w.heap.size, 0, none⟩ = some (.int .u32 p.src) ∧ w'.cell? ⟨w.heap.size, 1, none⟩ = some (.int .u32 p.dst) ∧ w'.cell? ⟨w.heap.size, 2, none⟩ = some (.int .u16 p.port) ∧ w'.cell? ⟨w.heap.size, 3, none⟩ = some (.int .u16 p.seq) ∧ w'.cell? ⟨w.heap.size, 4, none⟩ = some (.int .u32 p.time) ∧ w'.cell? ⟨w.heap.size, 5, none⟩ = some (.int .u16 p.id) ∧ w'.cell? ⟨w.heap.size, 6, none⟩ = some (.int .u8 p.flags) ∧ w'.cell? ⟨w.heap.size, 7, none⟩ = some (.string (bs p.body)) ∧ w'.cell? ⟨b, 1, none⟩ = some (.int .i64 m.keep) ∧ w'.cell? ⟨b, 2, none⟩ = some (.int .i64 m.refresh) ∧ InS w b m p g c w')
        ((first
          | (exact (unhide HI2).out (unhide HCC))
          | (exact (InS.call (by go_split_ands; assumption) hbel).out (unhide HCC))
          | (exact (InS.call (by go_split_ands; assumption) ((Below.refl _ _).alloc (Nat.le_refl _) _)).out (unhide HCC))
          | (rw [unhide HNC]; exact ((unhide (by assumption : Hid (InT w b m p g c _ St.zero _))).put n).all.out (unhide HCC))
          ))
        ((first
          | (go_at_call 71; rw [unhide HCC]; refine (cstride_any c p _ (unhide HCK).1 (unhide HP)).mono ?_; rintro e w5 ⟨rfl, hbel⟩
             first
             | (have HI5 : InS w b m p g c w5 := InS.call (unhide HI2) hbel)
             | (have HT5 : InT w b m p g c _ St.zero w5 := InT.call (InT.new (unhide HI2) (unhide HZ5)) hbel))
          | (go_at_call 70; refine (of_any p (strideN c p) _ (unhide HP) (unhide HST)).mono ?_; rintro e w6 ⟨rfl, hbel⟩; rw [← unhide HNN]; rw [← unhide HNC]
             first
             | (have T6 : InT w b m p g c _ St.zero w6 := InT.call (by assumption) hbel; have gz := T6.in5; (try rw [drew_size] at gz); have HT6 := hide T6; clear T6)
             | (have T6 : InT w b m p g c w5.heap.size St.zero w6 := InT.call (InT.new (by assumption) (unhide HZ5)) hbel; have gz := T6.in5; (try rw [drew_size] at gz); have HT6 := hide T6; clear T6)
             | (have I6 : InS w b m p g c w6 := InS.call (by assumption) hbel; have HT6 := hide (InT.new I6 (unhide HZ5)); clear I6))))
      all_goals go_split_ands
      all_goals
        rw [unhide HNC]
        have HI := hide ((unhide HT6).put n)
        go_wp2_with fail
        go_meet
        case rel => exact ⟨_, rfl, unhide HI⟩
    case rest =>
      obtain ⟨s, rfl, T7⟩ := hcut
      clear HI2 y1 y2 q0 q1 q2 q3 q4 q5 q6 q7 d1 d2
      have HT7 := hide T7
      clear T7
      obtain ⟨r2, r100⟩ := (⟨(unhide HM).r2, (unhide HM).r100⟩ : 2 ≤ m.refresh ∧ m.refresh ≤ 100)
      go_upto_region 8 with fail
      go_cut [9] (fun v wx => v = .int .u8 (kindN c n m.refresh : Nat) ∧ InT w b m p g c s n wx)
      case first =>
        go_region_held3 (fun w' => CxIn w' g 0 ∧ cxOf w' g 0 = C ∧ w'.cell? ⟨w.heap.size, 0, none⟩ = some (.int .u32 p.src) ∧ w'.cell? ⟨w.heap.size, 1, none⟩ = some (.int .u32 p.dst) ∧ w'.cell? ⟨w.heap.size, 2, none⟩ = some (.int .u16 p.port) ∧ w'.cell? ⟨w.heap.size, 3, none⟩ = some (.int .u16 p.seq) ∧ w'.cell? ⟨w.heap.size, 4, none⟩ = some (.int .u32 p.time) ∧ w'.cell? ⟨w.heap.size, 5, none⟩ = some (.int .u16 p.id) ∧ w'.cell? ⟨w.heap.size, 6, none⟩ = some (.int .u8 p.flags) ∧ w'.cell? ⟨w.heap.size, 7, none⟩ = some (.string (bs p.body)) ∧ w'.cell? ⟨b, 1, none⟩ = some (.int .i64 m.keep) ∧ w'.cell? ⟨b, 2, none⟩ = some (.int .i64 m.refresh) ∧ w'.cell? ⟨s, 0, none⟩ = some (.int .u16 n.seq) ∧ w'.cell? ⟨s, 1, none⟩ = some (.int .u16 n.stride) ∧ w'.cell? ⟨s, 2, none⟩ = some (.int .u16 n.offset) ∧ w'.cell? ⟨s, 3, none⟩ = some (.int .u32 n.lag) ∧ w'.cell? ⟨s, 4, none⟩ = some (.int .u8 n.flags) ∧ InT w b m p g c s n w')
          ((first
            | (exact (unhide HT7).drew.out (unhide HCC))
            | (exact (InT.call (unhide HT7).drew hbel).out (unhide HCC))))
          ((go_at_call 72; rw [unhide HCC]; refine (ckind_any c n m.refresh _ (unhide HCK).1 (unhide HNO) (by omega) (by omega)).mono ?_; rintro e w8 ⟨rfl, hbel⟩))
        all_goals go_split_ands
        all_goals (have HT8 := hide ‹InT w b m p g c s n _›)
        all_goals go_wp2_with fail
        all_goals go_meet
        all_goals (case rel => exact ⟨rfl, unhide HT8⟩)
      case rest =>
        obtain ⟨rfl, T9⟩ := hcut
        clear HT7
        have k5 := T9.snd5
        have HT9 := hide T9
        clear T9
        have hr8 : c.rank ≤ 8 := (unhide HCK).1.rank
        obtain ⟨m2, hm2⟩ : ∃ m2, m2 = fallN m c.rank := ⟨_, rfl⟩
        have hl2 : m2.cs.length = 8 := by rw [hm2]; simp [fallN, hl]
        have hkp2 : m2.keep = m.keep := by rw [hm2]; rfl
        have HM2 := hide hm2
        have HK2 := hide hkp2
        clear hm2 hkp2
        go_upto_region 10 with (go_at_call 73; refine (fallBack_any m b c.rank _ (unhide HM) (unhide HT9).all.snd hr8).mono ?_; rintro e w10 ⟨rfl, hs10, ho10⟩; rw [← unhide HM2] at hs10; have HT10 := hide ((unhide HT9).turn hs10 ho10); clear hs10 ho10)
        obtain ⟨D, hD⟩ : ∃ D, D = sentN c (kindN c n m.refresh) n m.keep := ⟨_, rfl⟩
        have HD := hide hD
        clear hD
        go_cut [9] (fun v wx => v = .int .u8 (kindN c n m.refresh : Nat) ∧ InT w b (m2.set k D) p g c s n wx)
        case first =>
          have gD := Cx.good D
          obtain ⟨keep, hkeep⟩ : ∃ keep, keep = m.keep := ⟨_, rfl⟩
          have HKP := hide hkeep
          have HU0 : InU w b keep g c s n w10 := by rw [hkeep, ← unhide HK2]; exact (unhide HT10).u
          have HU := hide HU0
          clear hkeep HU0
          go_region_held3 (fun w' => CxIn w' g 0 ∧ cxOf w' g 0 = C ∧ w'.cell? ⟨b, 1, none⟩ = some (.int .i64 keep) ∧ w'.cell? ⟨s, 0, none⟩ = some (.int .u16 n.seq) ∧ w'.cell? ⟨s, 1, none⟩ = some (.int .u16 n.stride) ∧ w'.cell? ⟨s, 2, none⟩ = some (.int .u16 n.offset) ∧ w'.cell? ⟨s, 3, none⟩ = some (.int .u32 n.lag) ∧ w'.cell? ⟨s, 4, none⟩ = some (.int .u8 n.flags) ∧ InU w b keep g c s n w')
            ((first
              | (exact (InU.out (⟨(unhide HU).kp, (unhide HU).cx, (unhide HU).st⟩ : InU w b keep g c s n w10.drew) (unhide HCC)))
              | (exact (unhide (by assumption : Hid (InU w b keep g c s n _))).out (unhide HCC))
              | (exact ((by rw [unhide HKP, ← unhide HK2]; exact ((unhide (by assumption : Hid (InT w b m2 p g c s n _))).stored k D (by omega)).u : InU w b keep g c s n _)).out (unhide HCC))))
            ((go_at_call 74; rw [unhide HCC, unhide HKP]; refine (csent_any c (kindN c n m.refresh) n m.keep _ (unhide HCK).1 (unhide HNO) (kindN_le _ _ _) (unhide HCK).2).mono ?_; rintro e w11 ⟨rfl, hbel⟩; rw [← unhide HD]; have T11 := InT.call (unhide HT10).drew hbel; have gz : StIn w11 b (3 + k * 30) := ⟨_, _, T11.all.snd, by rw [Snd.cells_size]; omega⟩; have HU11 := hide (show InU w b keep g c s n w11 by rw [unhide HKP, ← unhide HK2]; exact T11.u); have HT11 := hide T11; clear T11))
          all_goals go_split_ands
          all_goals
            have HT12 := hide ((unhide HT11).stored k D (by omega))
            go_wp2_with fail
            go_meet
            case rel => exact ⟨rfl, unhide HT12⟩
        case rest =>
          obtain ⟨rfl, T12⟩ := hcut
          have hfin : m2.set k D = sendM m p := by
            rw [unhide HM2, unhide HD, unhide HK, sendM, sendK, nextN, ← unhide Hc, ← unhide HNN]
          rw [hfin] at T12
          have HF := hide (show sendF m p = frameN (kindN c n m.refresh) c.turn k n p by rw [sendF, sendK, nextN, ← unhide Hc, ← unhide HNN, ← unhide HK])
          obtain ⟨m3, hm3⟩ : ∃ m3, m3 = sendM m p := ⟨_, rfl⟩
          rw [← hm3] at T12
          have HM3 := hide hm3
          have HT12 := hide T12
          have ht4 : c.turn < 4 := (unhide HCK).1.turn
          clear T12 hm3 hfin HT10 HT9
          go_upto_region 11 with fail
          go_region_held3 (fun w' => CxIn w' g 0 ∧ cxOf w' g 0 = C ∧ w'.cell? ⟨w.heap.size, 0, none⟩ = some (.int .u32 p.src) ∧ w'.cell? ⟨w.heap.size, 1, none⟩ = some (.int .u32 p.dst) ∧ w'.cell? ⟨w.heap.size, 2, none⟩ = some (.int .u16 p.port) ∧ w'.cell? ⟨w.heap.size, 3, none⟩ = some (.int .u16 p.seq) ∧ w'.cell? ⟨w.heap.size, 4, none⟩ = some (.int .u32 p.time) ∧ w'.cell? ⟨w.heap.size, 5, none⟩ = some (.int .u16 p.id) ∧ w'.cell? ⟨w.heap.size, 6, none⟩ = some (.int .u8 p.flags) ∧ w'.cell? ⟨w.heap.size, 7, none⟩ = some (.string (bs p.body)) ∧ w'.cell? ⟨b, 1, none⟩ = some (.int .i64 (m3).keep) ∧ w'.cell? ⟨b, 2, none⟩ = some (.int .i64 (m3).refresh) ∧ w'.cell? ⟨s, 0, none⟩ = some (.int .u16 n.seq) ∧ w'.cell? ⟨s, 1, none⟩ = some (.int .u16 n.stride) ∧ w'.cell? ⟨s, 2, none⟩ = some (.int .u16 n.offset) ∧ w'.cell? ⟨s, 3, none⟩ = some (.int .u32 n.lag) ∧ w'.cell? ⟨s, 4, none⟩ = some (.int .u8 n.flags) ∧ InT w b (m3) p g c s n w')
            ((first
              | (exact (unhide HT12).drew.out (unhide HCC))
              | (exact (InT.call (unhide HT12).drew hbel).out (unhide HCC))
              | (exact (InT.call (unhide (by assumption : Hid (InT w b m3 p g c s n _))) hbel).out (unhide HCC))))
            ((first
              | (go_at_call 76; rw [unhide HCC]; refine (cplace_any c k _ hk8).mono ?_; rintro e w13 ⟨rfl, hbel⟩; have HT13 := hide (InT.call (unhide HT12).drew hbel))
              | (go_at_call 75; refine (fmake_any (kindN c n m.refresh) k c.turn p n _ (unhide HP) (unhide HNO) (kindN_le _ _ _) hk8 ht4 hb).mono ?_; rintro e w14 ⟨rfl, hbel⟩)))
          all_goals go_split_ands
          all_goals (have HT15 := hide ‹InT w b m3 p g c s n _›)
          all_goals go_wp2_with fail
          all_goals go_ret2
          all_goals exact ⟨by rw [unhide HF]; rfl, by rw [← unhide HM3]; exact (unhide HT15).all.snd, (unhide HT15).all.only⟩

set_option maxRecDepth 100000 in
set_option maxHeartbeats 1000000 in
theorem send_long (b : Nat) (p : Pk) (w : World) (hb : 100 < p.body.length) :
    Calls Tryz.prog 42 #[.pointer (some ⟨b, 0, none⟩), .agg p.cells] w fun e w' => e = .returned (.tuple #[.string (bs []), .int .i64 2]) ∧ Below w.heap.size w w' := by
  unfold Pk.cells
  go_enter Tryz.func42, Tryz.ntmps42
  go_wp2_with fail
  go_ret2
  exact ⟨rfl, (Below.refl _ _).alloc (Nat.le_refl _) _⟩

set_option maxRecDepth 100000 in
set_option maxHeartbeats 1000000 in
theorem gsend_any (m : Snd) (b : Nat) (p : Pk) (w : World) (hm : m.ok) (h : SndAt w b m) (hp : p.ok) (hb : p.body.length ≤ 100) (hcnt : ∀ c ∈ m.cs, c.age + 1 < 4611686018427387904) :
    Calls Tryz.prog 22 #[.pointer (some ⟨b, 0, none⟩), .agg p.cells] w fun e w' => e = .returned (.tuple #[.string (bs (sendF m p)), .int .i64 0]) ∧ SndAt w' b (sendM m p) ∧ Only (· = b) w w' := by
  have H0 : SndAt (w.alloc (.cells p.cells 43)) b m := block_alloc h _
  have H1 : SndAt (w.alloc (.cells p.cells 43)).drew b m := H0
  have H := hide H1
  have hbl := block_lt h
  have HM := hide hm
  have HP := hide hp
  have HC := hide hcnt
  clear h H0 H1 hm hp hcnt
  unfold Pk.cells
  go_enter Tryz.func22, Tryz.ntmps22
  go_wp2_with fail
  go_region_with ((go_at_call 42; refine (send_any m b p _ (unhide HM) (unhide H) (unhide HP) hb (unhide HC)).mono ?_; rintro e w1 ⟨rfl, h1, h2⟩; have HS := hide h1; have HO := hide h2; clear h1 h2))
  all_goals go_wp2
  all_goals go_ret2
  all_goals exact ⟨rfl, unhide HS, (Only.of_below ((Below.refl _ _).alloc (Nat.le_refl _) _)).trans ((Only.refl _ _).drew.trans (unhide HO))⟩

set_option maxRecDepth 100000 in
set_option maxHeartbeats 1000000 in
theorem gsend_long (b : Nat) (p : Pk) (w : World) (hb : 100 < p.body.length) :
    Calls Tryz.prog 22 #[.pointer (some ⟨b, 0, none⟩), .agg p.cells] w fun e w' => e = .returned (.tuple #[.string (bs []), .int .i64 2]) ∧ Below w.heap.size w w' := by
  unfold Pk.cells
  go_enter Tryz.func22, Tryz.ntmps22
  go_wp2_with fail
  go_region_with ((go_at_call 42; refine (send_long b p _ hb).mono ?_; rintro e w1 ⟨rfl, h1⟩; have HB := hide h1; clear h1))
  all_goals go_wp2
  all_goals go_ret2
  all_goals exact ⟨rfl, keep_below ((Below.refl _ _).alloc (Nat.le_refl _) _).drew (unhide HB) (by simp)⟩

end Go.Proofs.YtgpojbgjfibblabGreat.texts
