/-
  The walks of the program's receiver (package receiver): refusal, Take.
  Conditions stand in each theorem.
-/
import Derived.Test.YtgpojbgjfibblabGreatRcvCtx
import Derived.Test.YtgpojbgjfibblabGreatSendWalk
namespace Go.Proofs.YtgpojbgjfibblabGreat.texts
open Go.RowKit
set_option linter.unusedVariables false
attribute [local go_sem ↓] Go.wp_at_zero Go.wp_at_succ
attribute [local go_sem] bs_size be_length bs_append List.length_append

set_option maxRecDepth 100000 in
set_option maxHeartbeats 2000000 in
theorem refusal_any (c : Rx) (f : Fr) (p : Pk) (w : World) (hf : f.ok) (hp : p.ok) :
    Calls Tryz.prog 90 #[.agg c.cells, .agg f.cells, .agg p.cells] w fun e w' => e = .returned (.int .i64 (refusalN c f p : Nat)) ∧ Below w.heap.size w w' := by
  have hk := hf.kind
  have HP := hide hp
  obtain ⟨r, hr⟩ : ∃ r, r = refusalN c f p := ⟨_, rfl⟩
  rw [← hr]
  unfold refusalN at hr
  have HR := hide hr
  obtain ⟨T, hT⟩ : ∃ T, T = decide (f.chk = chk (widthN f.kind) p) := ⟨_, rfl⟩
  have HX := hide (show ∀ w : World, Calls Tryz.prog 115 #[.agg f.cells, .agg p.cells] w fun e w' => e = .returned (.bool T) ∧ Below w.heap.size w w' by
    intro w; rw [hT]; exact right_any f p w hk hp)
  have HT := hide hT
  clear hT hr hp
  by_cases h3 : f.kind = 3
  · have hv : r = if T = true then 0 else 10 := by
      rw [unhide HR, unhide HT, if_neg (fun e => e.1 h3), if_neg (fun e => e.1 h3)]
      simp only [decide_eq_true_eq]
    rw [hv]
    clear HR hv HT
    unfold Rx.cells Fr.cells Pk.cells
    go_enter Tryz.func90, Tryz.ntmps90
    rw [h3]
    cases T
    all_goals
      go_wp2_with (go_at_call 115; refine (by have := unhide HX; unfold Fr.cells Pk.cells at this; rw [h3] at this; exact this _ : Calls _ _ _ _ _).mono ?_; rintro e w3 ⟨rfl, hb2⟩; have HB := hide hb2; clear hb2)
      go_ret
      exact ⟨by simp, keep_below ((((Below.refl _ _).alloc (Nat.le_refl _) _).alloc (by simp) _).alloc (by simp; omega) _) (unhide HB) (by simp; omega)⟩
  · have hkb : ((f.kind : Int) != 3) = true := by rw [bne_iff_ne]; omega
    cases hb : c.begun
    · have hv : r = 8 := by rw [unhide HR, if_pos ⟨h3, hb⟩]
      rw [hv]
      clear HR hv HT
      unfold Rx.cells Fr.cells Pk.cells
      go_enter Tryz.func90, Tryz.ntmps90
      rw [hb]
      go_wp2
      go_ret
      exact ⟨rfl, (((Below.refl _ _).alloc (Nat.le_refl _) _).alloc (by simp) _).alloc (by simp; omega) _⟩
    · by_cases ht : c.turn = f.turn
      · have hv : r = if T = true then 0 else 10 := by
          rw [unhide HR, unhide HT, if_neg (fun e => by rw [hb] at e; cases e.2), if_neg (fun e => e.2 ht)]
          simp only [decide_eq_true_eq]
        rw [hv]
        have htb : ((c.turn : Int) != (f.turn : Int)) = false := by rw [ht]; simp
        clear HR hv HT ht
        unfold Rx.cells Fr.cells Pk.cells
        go_enter Tryz.func90, Tryz.ntmps90
        rw [hb]
        cases T
        all_goals
          go_wp2_with (go_at_call 115; refine (unhide HX _).mono ?_; rintro e w3 ⟨rfl, hb2⟩; have HB := hide hb2; clear hb2)
          go_ret
          exact ⟨by simp, keep_below ((((Below.refl _ _).alloc (Nat.le_refl _) _).alloc (by simp) _).alloc (by simp; omega) _) (unhide HB) (by simp; omega)⟩
      · have hv : r = 9 := by rw [unhide HR, if_neg (fun e => by rw [hb] at e; cases e.2), if_pos ⟨h3, ht⟩]
        rw [hv]
        have htb : ((c.turn : Int) != (f.turn : Int)) = true := by rw [bne_iff_ne]; omega
        clear HR hv HT ht
        unfold Rx.cells Fr.cells Pk.cells
        go_enter Tryz.func90, Tryz.ntmps90
        rw [hb]
        go_wp2
        go_ret
        exact ⟨rfl, (((Below.refl _ _).alloc (Nat.le_refl _) _).alloc (by simp) _).alloc (by simp; omega) _⟩

/-- a receiver lies in a block of its own -/
def RcvAt (w : World) (b : Nat) (m : Rcv) : Prop := w.heap[b]? = some (.cells m.cells 91 (0, 0))
theorem store_new {ops : Array Oper} {rest : List Oper} {dst : Option Tmp} {ty k : TypeId} {pos : String} {aft : Array Edge} {x y : Operand} {a : Act} {w : World} {Q : Exit → Act → World → Prop}
    {g : Nat} {cells : Array Value} {t : TypeId} {old : Array Value} (hx : a.eval x = .pointer (some ⟨g, 0, none⟩)) (hy : a.eval y = .agg cells) (hg : g = w.heap.size)
    (hi : (Tryz.prog.info? ty).map (·.size) = some cells.size) (hold : old.size = cells.size) (h1 : cells.all (·.oneCell') = true)
    (h : wpList Tryz.prog ops Q rest (a.put dst undef) (w.alloc (.cells cells t))) : wpList Tryz.prog ops Q (⟨dst, .store ty x y, k, pos, aft, none⟩ :: rest) a (w.alloc (.cells old t)) := by
  subst hg
  refine store_whole hx hy (heap_alloc_new w _) hi hold h1 ?_
  rw [setRow_alloc_new']
  exact h
theorem ret_whole3 {fn : Func} {p q r : Tmp} {ty : TypeId} {d : TypeDesc} {a : Act} {w : World} {g : Nat} {t : TypeId} {cs : Array Value} {R : Ending → World → Prop}
    (h : fn.results = #[.cell p ty, .tmp q, .tmp r]) (hp : a.tmps.getD p undef = .pointer (some ⟨g, 0, none⟩)) (hg : w.heap[g]? = some (.cells cs t (0, 0)))
    (hu : Tryz.prog.underlying ty = some d) (hd : d.isRow = true) (hi : (Tryz.prog.info? ty).map (·.size) = some cs.size) (hf : a.defers = []) (hR : R (.returned (.tuple #[.agg cs, a.tmps.getD q undef, a.tmps.getD r undef])) w) :
    bodyPost Tryz.prog fn R .ret a w := by
  refine bodyPost_ret (v := .tuple #[.agg cs, a.tmps.getD q undef, a.tmps.getD r undef]) ?_ hf hR
  have hp' : a.tmps[p]?.getD undef = .pointer (some ⟨g, 0, none⟩) := by simpa using hp
  have := run_loadVar_mid (P := Tryz.prog) w g 0 ty cs.toList d (range_block hg) hu hd (by rw [hi, Array.length_toList])
  simp [results, h, hp', asAddr, this]

/-- a context's cells in the midst of a block -/
def rxOf (w : World) (g o : Nat) : Array Value := match w.heap[g]? with | some (.cells c _ _) => ((c.toList.drop o).take 11).toArray | _ => #[]
def RxIn (w : World) (g o : Nat) : Prop := ∃ c t fr, w.heap[g]? = some (.cells c t fr) ∧ o + 11 ≤ c.size
def loadRx (v : Value) : Sem Value := Instr.loadAt 84 v
theorem loadRx_eq (v : Value) : Instr.loadAt 84 v = loadRx v := rfl
theorem run_loadRx (w : World) (g o : Nat) (h : RxIn w g o) : (loadRx (.pointer (some ⟨g, o, none⟩))).run Tryz.prog w = .ok (.agg (rxOf w g o)) w := by
  obtain ⟨c, t, fr, h1, h2⟩ := h
  have := run_loadAt_mid (P := Tryz.prog) w g o 84 _ _ (World.rangeAt_of_block h1 o 11) Tryz.underlying84 rfl (by rw [infoRx]; simp; omega)
  simpa [rxOf, h1, loadRx] using this
def storeRx (v u : Value) : Sem Unit := Instr.storeAt 84 v u
theorem storeRx_eq (v u : Value) : Instr.storeAt 84 v u = storeRx v u := rfl
def RxTo (w : World) (g o : Nat) : Prop := ∃ c t, w.heap[g]? = some (.cells c t (0, 0)) ∧ o + 11 ≤ c.size
def GoodRx (C : Array Value) : Prop := C.size = 11 ∧ C.all (·.oneCell') = true
theorem run_storeRx (w : World) (g o : Nat) (C : Array Value) (h : RxTo w g o) (hC : GoodRx C) : (storeRx (.pointer (some ⟨g, o, none⟩)) (.agg C)).run Tryz.prog w = .ok () (w.setRow g (putRow (rowOf w g) o C.toList)) := by
  obtain ⟨c, t, h1, h2⟩ := h
  have e : rowOf w g = c := by unfold rowOf; rw [h1]
  have := run_storeAt_mid (P := Tryz.prog) w g o 84 C (there_block h1 o _ (by rw [hC.1]; exact h2)) (by rw [infoRx, hC.1]) hC.2
  rw [setCells_eq _ w c o h1] at this
  rw [e]
  exact this
theorem Rx.good (c : Rx) : GoodRx c.cells := ⟨rfl, Rx.cells_one c⟩
theorem block_rxIn {w : World} {g : Nat} {c : Rx} {t : TypeId} {fr : Nat × Nat} (h : w.heap[g]? = some (.cells c.cells t fr)) : RxIn w g 0 := ⟨_, _, _, h, by rw [Rx.cells_size]; omega⟩
theorem block_rxOf {w : World} {g : Nat} {c : Rx} {t : TypeId} {fr : Nat × Nat} (h : w.heap[g]? = some (.cells c.cells t fr)) : rxOf w g 0 = c.cells := by
  unfold rxOf
  rw [h]
  simp only [List.drop_zero]
  rw [List.take_of_length_le (by rw [Array.length_toList, Rx.cells_size]; omega)]
theorem RcvAt.to {w : World} {b : Nat} {m : Rcv} (h : RcvAt w b m) (i : Nat) (hi : i < m.cs.length) : RxTo w b (1 + i * 11) := ⟨_, _, h, by rw [Rcv.cells_size]; omega⟩
theorem RcvAt.range {w : World} {b : Nat} {m : Rcv} (h : RcvAt w b m) (i : Nat) (hi : i < m.cs.length) {C : Array Value} (hC : C = (m.at_ i).cells) : w.rangeAt b (1 + i * 11) C.toList := by
  have h' : w.heap[b]? = some (.cells m.cells 91 (0, 0)) := h
  have this : w.rangeAt b (1 + i * 11) ((m.cells.toList.drop (1 + i * 11)).take 11) := by simpa using World.rangeAt_of_block h' (1 + i * 11) 11
  have e : (m.cells.toList.drop (1 + i * 11)).take 11 = C.toList := by
    rw [hC]
    apply List.ext_getElem?
    intro k
    rw [List.getElem?_take]
    by_cases hk : k < 11
    · rw [if_pos hk, List.getElem?_drop, Array.getElem?_toList, Nat.mul_comm i 11, Rcv.get m i k hi hk, Array.getElem?_toList]
    · rw [if_neg hk, List.getElem?_eq_none (by rw [Array.length_toList, Rx.cells_size]; omega)]
  rw [e] at this
  exact this

/-- the receiver, the answer and the frame in memory -/
structure TkA (w : World) (b : Nat) (m : Rcv) (f : Fr) (gF : Nat) (w1 : World) : Prop where
  rcv : RcvAt w1 b m
  res : w1.heap[w.heap.size]? = some (.cells zeroP.cells 43 (0, 0))
  fr : w1.heap[gF]? = some (.cells f.cells 168 (0, 0))
  gf : w.heap.size < gF
  bb : b < w.heap.size
  only : Only (· = b) w w1
theorem TkA.call {w w1 w2 : World} {b gF : Nat} {m : Rcv} {f : Fr} (h : TkA w b m f gF w1) (hb : Below w1.heap.size w1 w2) : TkA w b m f gF w2 :=
  ⟨block_keep h.rcv hb, block_keep h.res hb, block_keep h.fr hb, h.gf, h.bb, h.only.trans (Only.of_below hb)⟩
theorem TkA.alloc {w w1 : World} {b gF : Nat} {m : Rcv} {f : Fr} (h : TkA w b m f gF w1) (o : Obj) : TkA w b m f gF (w1.alloc o) := h.call ((Below.refl _ _).alloc (Nat.le_refl _) _)
theorem TkA.drew {w w1 : World} {b gF : Nat} {m : Rcv} {f : Fr} (h : TkA w b m f gF w1) : TkA w b m f gF w1.drew := ⟨h.rcv, h.res, h.fr, h.gf, h.bb, h.only.drew⟩
/-- another block stands, and is none of these -/
structure Apart (w : World) (g : Nat) (C : Array Value) (t : TypeId) (w1 : World) : Prop where
  at_ : w1.heap[g]? = some (.cells C t (0, 0))
  up : w.heap.size < g
theorem Apart.call {w w1 w2 : World} {g : Nat} {C : Array Value} {t : TypeId} (h : Apart w g C t w1) (hb : Below w1.heap.size w1 w2) : Apart w g C t w2 := ⟨block_keep h.at_ hb, h.up⟩
theorem Apart.alloc {w w1 : World} {g : Nat} {C : Array Value} {t : TypeId} (h : Apart w g C t w1) (o : Obj) : Apart w g C t (w1.alloc o) := ⟨block_alloc h.at_ o, h.up⟩
theorem Apart.drew {w w1 : World} {g : Nat} {C : Array Value} {t : TypeId} (h : Apart w g C t w1) : Apart w g C t w1.drew := ⟨h.at_, h.up⟩

end Go.Proofs.YtgpojbgjfibblabGreat.texts
