/-
  The walk of a line's beginning (gistkeep.begun): both ends come about, and a first packet comes through.
  Conditions stand in each theorem.
-/
import Derived.Test.YtgpojbgjfibblaaKeepPk
import Derived.Test.YtgpojbgjfibblaaPart38
import Derived.Test.YtgpojbgjfibblaaNewWalk
import Derived.Test.YtgpojbgjfibblaaNewSnd
namespace Go.Proofs.Ytgpojbgjfibblaa.texts
open Go.RowKit
set_option linter.unusedVariables false
attribute [local go_sem ↓] Go.wp_at_zero Go.wp_at_succ
attribute [local go_sem] bs_size

def firstP : Pk := ⟨srcN 0, dstN 0, portN 0, 7, 70, 9, 1, [98, 101, 103, 117, 110]⟩
theorem firstP_ok : firstP.ok := ⟨srcN_lt 0, dstN_lt 0, portN_lt 0, by decide, by decide, by decide, by decide⟩
def emptyL (c k r s y : Nat) : Ln := ⟨c, k, r, s, y, List.replicate 10 zeroP, List.replicate 8 0, List.replicate 8 0⟩
def firstL (c k r s y : Nat) : Ln := (emptyL c k r s y).setLast 0 firstP
theorem zeroP_ok : zeroP.ok := ⟨by decide, by decide, by decide, by decide, by decide, by decide, by decide⟩
theorem emptyL_ok {c k r : Nat} (s y : Nat) (h1 : 1 ≤ c) (h2 : c ≤ 8) (h3 : 1 ≤ k) (h4 : k ≤ 4) (h5 : 2 ≤ r) (h6 : r ≤ 100) : (emptyL c k r s y).ok :=
  ⟨h1, h2, h3, h4, h5, h6, by simp [emptyL], by simp [emptyL], by simp [emptyL], fun p hp => by rw [List.eq_of_mem_replicate hp]; exact zeroP_ok⟩
theorem firstL_ok {c k r : Nat} (s y : Nat) (h1 : 1 ≤ c) (h2 : c ≤ 8) (h3 : 1 ≤ k) (h4 : k ≤ 4) (h5 : 2 ≤ r) (h6 : r ≤ 100) : (firstL c k r s y).ok := Ln.setLast_ok (emptyL_ok s y h1 h2 h3 h4 h5 h6) _ firstP_ok
theorem built_line (c k r s y : Nat) : Try.prog.built 97 [(0, .agg #[.int .i64 c, .int .i64 k, .int .i64 r]), (1, .pointer (some ⟨s, 0, none⟩)), (2, .pointer (some ⟨y, 0, none⟩))] = some (emptyL c k r s y).cells := by kernel_rfl

/-- the first frame is whole -/
theorem first_kind (c k r : Nat) (h3 : 1 ≤ k) : sendK (freshN c k r) firstP = 3 := by
  have e : metN (freshN c k r) firstP = beginN Cx.blank firstP.src firstP.dst firstP.port k := by
    unfold metN
    simp only
    rw [fresh_at, if_neg (by rw [blank_has]; decide)]
    rfl
  unfold sendK kindN
  rw [e, if_pos (Or.inl (by simp only [beginN]; omega))]
theorem first_len (c k r : Nat) (h3 : 1 ≤ k) : (sendF (freshN c k r) firstP).length = 28 := by
  unfold sendF frameN toldN
  rw [first_kind c k r h3, if_pos rfl]
  simp [be_length, hdrL_length, firstP]

theorem zeros_get (i : Nat) : (List.replicate 8 0).getD i 0 = 0 := by
  rw [List.getD_eq_getElem?_getD, List.getElem?_replicate]
  split <;> rfl
/-- the line as it begins, in plain numbers -/
theorem first_lin {c k r : Nat} (s y : Nat) (h1 : 1 ≤ c) (h2 : c ≤ 8) (h3 : 1 ≤ k) (h4 : k ≤ 4) (h5 : 2 ≤ r) (h6 : r ≤ 100) :
    Lin (firstL c k r s y) (sendM (freshN c k r) firstP) (takeM (freshR c) (sendF (freshN c k r) firstP)) ∧ Both (sendM (freshN c k r) firstP) (takeM (freshR c) (sendF (freshN c k r) firstP)) (firstL c k r s y).lost := by
  have hx := fresh_ok h1 h2 h3 h4 h5 h6
  have hf := fresh_fit c k r
  have hy := freshR_ok h1 h2
  have hcc := choose_cids hx hf firstP
  obtain ⟨_, _, _, _, t⟩ := both_comes (y := freshR c) hx hy (by simp) (both_fresh c k r h3 _) firstP_ok (by decide) hcc
  refine ⟨⟨firstL_ok s y h1 h2 h3 h4 h5 h6, send_ok hx (young_fresh c k r) firstP_ok, take_ok hy _, rfl, rfl, rfl, take_cids _ _, fit_some hx hf firstP, young_send hx (young_fresh c k r) firstP, ?_, fun i => ?_⟩, ?_⟩
  · have a := (aged_send hx (by simp) (aged_fresh c k r (List.replicate 8 0)) firstP).1
    rw [first_kind c k r h3, if_pos rfl, List.set_replicate_self] at a
    exact a
  · show (List.replicate 8 0).getD i 0 < 100
    rw [zeros_get]
    omega
  · rw [List.set_replicate_self] at t
    exact t

/-- a line is built by a law alone -/
def buildE (t : TypeId) (ps : Array (Nat × Value)) : Sem Value := Instr.build t ps
theorem buildE1 (ps : Array (Nat × Value)) : Instr.build 97 ps = buildE 97 ps := rfl
attribute [local go_sem ↓] buildE1

theorem build_is3 {ops : Array Oper} {rest : List Oper} {dst : Option Tmp} {ty k : TypeId} {pos : String} {aft : Array Edge} {i0 i1 i2 : Nat} {x0 x1 x2 : Operand} {v0 v1 v2 : Value} {a : Act} {w : World} {Q : Exit → Act → World → Prop} {cells : Array Value}
    (hb : Try.prog.built ty [(i0, v0), (i1, v1), (i2, v2)] = some cells) (e0 : a.eval x0 = v0) (e1 : a.eval x1 = v1) (e2 : a.eval x2 = v2)
    (h : wpList Try.prog ops Q rest (a.put dst (.agg cells)) w) : wpList Try.prog ops Q (⟨dst, .build ty #[(i0, x0), (i1, x1), (i2, x2)], k, pos, aft, none⟩ :: rest) a w := by
  subst e0 e1 e2
  refine build_is (cells := cells) ?_ h
  simpa using hb

/-- what a line has about it: its own block, both ends -/
structure LinAt (w : World) (b : Nat) (m : Ln) (x : Snd) (y : Rcv) : Prop where
  ln : LnAt w b m
  snd : SndAt w m.s x
  rcv : RcvAt w m.r y
  bs : b ≠ m.s
  br : b ≠ m.r
  sr : m.s ≠ m.r

/-- what turns only blocks of the call's own leaves the rest -/
theorem below_only {w w1 w2 : World} (h : Below w.heap.size w w1) {S : Nat → Prop} (o : Only S w1 w2) (hS : ∀ k, S k → w.heap.size ≤ k) : Below w.heap.size w w2 :=
  ⟨o.os.trans h.os, o.tape.trans h.tape, o.output.trans h.output, Nat.le_trans h.size o.size, fun k hk => (o.block k (Nat.lt_of_lt_of_le hk h.size) (fun e => by have := hS k e; omega)).trans (h.block k hk)⟩

set_option maxRecDepth 100000 in
set_option maxHeartbeats 4000000 in
theorem begun_any (a k r : Int) (w : World) (ha : Raw a) (hk : Raw k) (hr : Raw r) (C K R : Nat) (hC : 1 + bits.pk a 8 = (C : Int)) (hK : 1 + bits.pk k 4 = (K : Int)) (hR : 2 + bits.pk r 99 = (R : Int)) :
    Calls Try.prog 38 #[.agg #[.int .i64 a, .int .i64 k, .int .i64 r]] w fun e w' => ∃ b s y, e = .returned (.tuple #[.pointer (some ⟨b, 0, none⟩), .bool true]) ∧ w.heap.size ≤ b ∧ w.heap.size ≤ s ∧ w.heap.size ≤ y ∧
      LinAt w' b (firstL C K R s y) (sendM (freshN C K R) firstP) (takeM (freshR C) (sendF (freshN C K R) firstP)) ∧ Below w.heap.size w w' := by
  have hC1 := bits.pk_bd a 8 (by decide)
  have hK1 := bits.pk_bd k 4 (by decide)
  have hR1 := bits.pk_bd r 99 (by decide)
  have c1 : 1 ≤ C := by omega
  have c2 : C ≤ 8 := by omega
  have k1 : 1 ≤ K := by omega
  have k2 : K ≤ 4 := by omega
  have r1 : 2 ≤ R := by omega
  have r2 : R ≤ 100 := by omega
  have X := hide (show ∀ w : World, Calls Try.prog 71 #[.agg #[.int .i64 a, .int .i64 k, .int .i64 r]] w fun e w' => e = .returned (.agg #[.int .i64 (C : Int), .int .i64 (K : Int), .int .i64 (R : Int)]) ∧ Below w.heap.size w w' by
    intro w; rw [← hC, ← hK, ← hR]; exact kconfig_any a k r w ha hk hr)
  have XS := hide (show ∀ w : World, _ from fun w => gnewS_yes C K R w c1 c2 k1 k2 r1 r2)
  have XR := hide (show ∀ w : World, _ from fun w => gnewR_yes C K R w c1 c2 k1 k2 r1 r2)
  clear hC hK hR hC1 hK1 hR1 ha hk hr
  go_enter Try.func38, Try.ntmps38
  go_upto_region 6 with (first
    | (go_at_call 71; refine (unhide X _).mono ?_; rintro e w1 ⟨rfl, hb1⟩; have W1 := hide (grew_call ((Below.refl _ _).alloc (Nat.le_refl _) _) hb1); clear hb1)
    | (go_at_call 72; refine (unhide XS _).mono ?_; rintro e w2 ⟨s, rfl, hs0, hs, hb2⟩; have G2 := block_keep (heap_alloc_new w1 _) hb2; have q0 := block_cell G2 0; have q1 := block_cell G2 1; have q2 := block_cell G2 2; have HG2 := hide G2; have W2 := hide (grew_call (grew_alloc (unhide W1) _) hb2); have HS2 := hide hs; clear hb2 hs G2)
    | (go_at_call 73; refine (unhide XR _).mono ?_; rintro e w3 ⟨y, rfl, hy0, hy, hb3⟩; have G3 := block_keep (unhide HG2) hb3; have u0 := block_cell G3 0; have u1 := block_cell G3 1; have u2 := block_cell G3 2; have HS3 := hide (block_keep (unhide HS2) hb3); have W3 := hide (grew_call (unhide W2) hb3); have HR3 := hide hy; clear hb3 hy G3))
  have hsy : s < w3.heap.size := block_lt (unhide HS3)
  have hyw : y < w3.heap.size := block_lt (unhide HR3)
  have hsne : s ≠ y := by have := block_lt (unhide HS2); omega
  have HB := hide (built_line C K R s y)
  obtain ⟨L, hL⟩ : ∃ L, L = (emptyL C K R s y).cells := ⟨_, rfl⟩
  rw [← hL] at HB
  have HL := hide hL
  clear hL
  have XP := hide (show ∀ w : World, _ from fun w => kroute_any 0 w (by decide))
  go_upto_region 8 with (first
    | (refine build_is3 (ty := 97) (unhide HB) rfl rfl rfl ?_)
    | (go_at_call 74; refine (unhide XP _).mono ?_; rintro e w4 ⟨rfl, hb4⟩))
  have E5 : w4.alloc (.cells #[.int .u32 ((srcN 0 : Nat) : Int), .int .u32 ((dstN 0 : Nat) : Int), .int .u16 ((portN 0 : Nat) : Int), .int .u16 7, .int .u32 70, .int .u16 9, .int .u8 1, .string ⟨#[98, 101, 103, 117, 110]⟩] 51) = w4.alloc (.cells firstP.cells 51) := rfl
  have L5 : LnAt (w4.alloc (.cells firstP.cells 51)) w3.heap.size (emptyL C K R s y) := by
    rw [LnAt, ← unhide HL]
    exact block_alloc (block_keep (heap_alloc_new w3 _) hb4) _
  have S5 : SndAt (w4.alloc (.cells firstP.cells 51)) s (freshN C K R) := block_alloc (block_keep (block_alloc (unhide HS3) _) hb4) _
  have R5 : RcvAt (w4.alloc (.cells firstP.cells 51)) y (freshR C) := block_alloc (block_keep (block_alloc (unhide HR3) _) hb4) _
  have P5 : (w4.alloc (.cells firstP.cells 51)).heap[w4.heap.size]? = some (.cells firstP.cells 51 (0, 0)) := heap_alloc_new w4 _
  have W5 : Below w.heap.size w (w4.alloc (.cells firstP.cells 51)) := grew_alloc (grew_call (grew_alloc (unhide W3) _) hb4) _
  have hsz : w3.heap.size + 1 ≤ w4.heap.size := by have := hb4.size; simpa using this
  rw [← E5] at L5 S5 R5 P5 W5
  have hb0 : w.heap.size ≤ w3.heap.size := (unhide W3).size
  have hs1 : w.heap.size ≤ s := by have := (unhide W1).size; simp at hs0; omega
  have hy1 : w.heap.size ≤ y := by have := (unhide W2).size; omega
  clear E5 hb4 HB X XS XR XP HG2 W1 W2 W3 HS2 HS3 HR3 HL u0 u1 u2 q0 q1 q2 hs0 hy0
  generalize w4.alloc (.cells #[.int .u32 ((srcN 0 : Nat) : Int), .int .u32 ((dstN 0 : Nat) : Int), .int .u16 ((portN 0 : Nat) : Int), .int .u16 7, .int .u32 70, .int .u16 9, .int .u8 1, .string ⟨#[98, 101, 103, 117, 110]⟩] 51) = w5 at L5 S5 R5 P5 W5 ⊢
  have hE := emptyL_ok s y c1 c2 k1 k2 r1 r2
  have D5 := L5.drew
  obtain ⟨p0, p1, p2, p3, p4, p5, p6, p7⟩ := cells8 (at_drew P5)
  have g0 : w5.drew.cell? ⟨w3.heap.size, 5, none⟩ = some (.int .u32 0) := (block_cell D5 5).trans (Ln.getLast hE 0 0 (by omega) (by omega))
  have g1 : w5.drew.cell? ⟨w3.heap.size, 6, none⟩ = some (.int .u32 0) := (block_cell D5 6).trans (Ln.getLast hE 0 1 (by omega) (by omega))
  have g2 : w5.drew.cell? ⟨w3.heap.size, 7, none⟩ = some (.int .u16 0) := (block_cell D5 7).trans (Ln.getLast hE 0 2 (by omega) (by omega))
  have g3 : w5.drew.cell? ⟨w3.heap.size, 8, none⟩ = some (.int .u16 0) := (block_cell D5 8).trans (Ln.getLast hE 0 3 (by omega) (by omega))
  have g4 : w5.drew.cell? ⟨w3.heap.size, 9, none⟩ = some (.int .u32 0) := (block_cell D5 9).trans (Ln.getLast hE 0 4 (by omega) (by omega))
  have g5 : w5.drew.cell? ⟨w3.heap.size, 10, none⟩ = some (.int .u16 0) := (block_cell D5 10).trans (Ln.getLast hE 0 5 (by omega) (by omega))
  have g6 : w5.drew.cell? ⟨w3.heap.size, 11, none⟩ = some (.int .u8 0) := (block_cell D5 11).trans (Ln.getLast hE 0 6 (by omega) (by omega))
  have g7 : w5.drew.cell? ⟨w3.heap.size, 12, none⟩ = some (.string (bs [])) := (block_cell D5 12).trans (Ln.getLast hE 0 7 (by omega) (by omega))
  have z0 := block_free D5 5
  have z1 := block_free D5 6
  have z2 := block_free D5 7
  have z3 := block_free D5 8
  have z4 := block_free D5 9
  have z5 := block_free D5 10
  have z6 := block_free D5 11
  have z7 := block_free D5 12
  have G0 : w5.cell? ⟨w3.heap.size, 5, none⟩ = _ := g0
  have Z0 : w5.frozen? ⟨w3.heap.size, 5, none⟩ = false := z0
  have G1 : w5.cell? ⟨w3.heap.size, 6, none⟩ = _ := g1
  have Z1 : w5.frozen? ⟨w3.heap.size, 6, none⟩ = false := z1
  have G2 : w5.cell? ⟨w3.heap.size, 7, none⟩ = _ := g2
  have Z2 : w5.frozen? ⟨w3.heap.size, 7, none⟩ = false := z2
  have G3 : w5.cell? ⟨w3.heap.size, 8, none⟩ = _ := g3
  have Z3 : w5.frozen? ⟨w3.heap.size, 8, none⟩ = false := z3
  have G4 : w5.cell? ⟨w3.heap.size, 9, none⟩ = _ := g4
  have Z4 : w5.frozen? ⟨w3.heap.size, 9, none⟩ = false := z4
  have G5 : w5.cell? ⟨w3.heap.size, 10, none⟩ = _ := g5
  have Z5 : w5.frozen? ⟨w3.heap.size, 10, none⟩ = false := z5
  have G6 : w5.cell? ⟨w3.heap.size, 11, none⟩ = _ := g6
  have Z6 : w5.frozen? ⟨w3.heap.size, 11, none⟩ = false := z6
  have G7 : w5.cell? ⟨w3.heap.size, 12, none⟩ = _ := g7
  have Z7 : w5.frozen? ⟨w3.heap.size, 12, none⟩ = false := z7
  have HL5 := hide L5
  have HS5 := hide S5
  have HR5 := hide R5
  have HP5 := hide P5
  have HW5 := hide W5
  clear L5 S5 R5 P5 W5 D5
  go_region
  have L6 : LnAt ((((((((w5.setCell ⟨w3.heap.size, 5, none⟩ (.int .u32 (firstP.src : Int))).setCell ⟨w3.heap.size, 6, none⟩ (.int .u32 (firstP.dst : Int))).setCell ⟨w3.heap.size, 7, none⟩ (.int .u16 (firstP.port : Int))).setCell ⟨w3.heap.size, 8, none⟩ (.int .u16 (firstP.seq : Int))).setCell ⟨w3.heap.size, 9, none⟩ (.int .u32 (firstP.time : Int))).setCell ⟨w3.heap.size, 10, none⟩ (.int .u16 (firstP.id : Int))).setCell ⟨w3.heap.size, 11, none⟩ (.int .u8 (firstP.flags : Int))).setCell ⟨w3.heap.size, 12, none⟩ (.string (bs firstP.body))).drew w3.heap.size (firstL C K R s y) := (ln_fill hE (unhide HL5) (n := 0) (by omega) firstP).drew
  have S6 : SndAt ((((((((w5.setCell ⟨w3.heap.size, 5, none⟩ (.int .u32 (firstP.src : Int))).setCell ⟨w3.heap.size, 6, none⟩ (.int .u32 (firstP.dst : Int))).setCell ⟨w3.heap.size, 7, none⟩ (.int .u16 (firstP.port : Int))).setCell ⟨w3.heap.size, 8, none⟩ (.int .u16 (firstP.seq : Int))).setCell ⟨w3.heap.size, 9, none⟩ (.int .u32 (firstP.time : Int))).setCell ⟨w3.heap.size, 10, none⟩ (.int .u16 (firstP.id : Int))).setCell ⟨w3.heap.size, 11, none⟩ (.int .u8 (firstP.flags : Int))).setCell ⟨w3.heap.size, 12, none⟩ (.string (bs firstP.body))).drew s (freshN C K R) := at_drew (ln_other (unhide HS5) (by omega) 0 firstP)
  have R6 : RcvAt ((((((((w5.setCell ⟨w3.heap.size, 5, none⟩ (.int .u32 (firstP.src : Int))).setCell ⟨w3.heap.size, 6, none⟩ (.int .u32 (firstP.dst : Int))).setCell ⟨w3.heap.size, 7, none⟩ (.int .u16 (firstP.port : Int))).setCell ⟨w3.heap.size, 8, none⟩ (.int .u16 (firstP.seq : Int))).setCell ⟨w3.heap.size, 9, none⟩ (.int .u32 (firstP.time : Int))).setCell ⟨w3.heap.size, 10, none⟩ (.int .u16 (firstP.id : Int))).setCell ⟨w3.heap.size, 11, none⟩ (.int .u8 (firstP.flags : Int))).setCell ⟨w3.heap.size, 12, none⟩ (.string (bs firstP.body))).drew y (freshR C) := at_drew (ln_other (unhide HR5) (by omega) 0 firstP)
  have P6 : ((((((((w5.setCell ⟨w3.heap.size, 5, none⟩ (.int .u32 (firstP.src : Int))).setCell ⟨w3.heap.size, 6, none⟩ (.int .u32 (firstP.dst : Int))).setCell ⟨w3.heap.size, 7, none⟩ (.int .u16 (firstP.port : Int))).setCell ⟨w3.heap.size, 8, none⟩ (.int .u16 (firstP.seq : Int))).setCell ⟨w3.heap.size, 9, none⟩ (.int .u32 (firstP.time : Int))).setCell ⟨w3.heap.size, 10, none⟩ (.int .u16 (firstP.id : Int))).setCell ⟨w3.heap.size, 11, none⟩ (.int .u8 (firstP.flags : Int))).setCell ⟨w3.heap.size, 12, none⟩ (.string (bs firstP.body))).drew.heap[w4.heap.size]? = some (.cells firstP.cells 51 (0, 0)) := at_drew (ln_other (unhide HP5) (by omega) 0 firstP)
  have W6 : Below w.heap.size w ((((((((w5.setCell ⟨w3.heap.size, 5, none⟩ (.int .u32 (firstP.src : Int))).setCell ⟨w3.heap.size, 6, none⟩ (.int .u32 (firstP.dst : Int))).setCell ⟨w3.heap.size, 7, none⟩ (.int .u16 (firstP.port : Int))).setCell ⟨w3.heap.size, 8, none⟩ (.int .u16 (firstP.seq : Int))).setCell ⟨w3.heap.size, 9, none⟩ (.int .u32 (firstP.time : Int))).setCell ⟨w3.heap.size, 10, none⟩ (.int .u16 (firstP.id : Int))).setCell ⟨w3.heap.size, 11, none⟩ (.int .u8 (firstP.flags : Int))).setCell ⟨w3.heap.size, 12, none⟩ (.string (bs firstP.body))).drew := (((((((((unhide HW5).setCell hb0 _).setCell hb0 _).setCell hb0 _).setCell hb0 _).setCell hb0 _).setCell hb0 _).setCell hb0 _).setCell hb0 _).drew
  clear g0 g1 g2 g3 g4 g5 g6 g7 z0 z1 z2 z3 z4 z5 z6 z7 G0 G1 G2 G3 G4 G5 G6 G7 Z0 Z1 Z2 Z3 Z4 Z5 Z6 Z7 p0 p1 p2 p3 p4 p5 p6 p7 HL5 HS5 HR5 HP5 HW5
  generalize ((((((((w5.setCell ⟨w3.heap.size, 5, none⟩ (.int .u32 (firstP.src : Int))).setCell ⟨w3.heap.size, 6, none⟩ (.int .u32 (firstP.dst : Int))).setCell ⟨w3.heap.size, 7, none⟩ (.int .u16 (firstP.port : Int))).setCell ⟨w3.heap.size, 8, none⟩ (.int .u16 (firstP.seq : Int))).setCell ⟨w3.heap.size, 9, none⟩ (.int .u32 (firstP.time : Int))).setCell ⟨w3.heap.size, 10, none⟩ (.int .u16 (firstP.id : Int))).setCell ⟨w3.heap.size, 11, none⟩ (.int .u8 (firstP.flags : Int))).setCell ⟨w3.heap.size, 12, none⟩ (.string (bs firstP.body))).drew = w6 at L6 S6 R6 P6 W6 ⊢
  obtain ⟨p0, p1, p2, p3, p4, p5, p6, p7⟩ := cells8 P6
  have hx0 := fresh_ok c1 c2 k1 k2 r1 r2
  have hy0 := freshR_ok c1 c2
  have hcc := choose_cids hx0 (fresh_fit C K R) firstP
  obtain ⟨t1, t2, t3, _, _⟩ := both_comes (y := freshR C) hx0 hy0 (by simp) (both_fresh C K R k1 _) firstP_ok (by decide) hcc
  have X7 := hide (show ∀ w : World, SndAt w s (freshN C K R) → _ from fun w h => gsend_any (freshN C K R) s firstP w hx0 h firstP_ok (by decide) (young_mem hx0 (young_fresh C K R)))
  have hfl := first_len C K R k1
  have X8 := hide (show ∀ w : World, RcvAt w y (freshR C) → Calls Try.prog 44 #[.pointer (some ⟨y, 0, none⟩), .string (bs (sendF (freshN C K R) firstP))] w fun e w' => e = .returned (.tuple #[.agg firstP.cells, .string (bs []), .int .i64 0]) ∧ RcvAt w' y (takeM (freshR C) (sendF (freshN C K R) firstP)) ∧ Only (· = y) w w' by
    intro w h; have := gtake_any (freshR C) y (sendF (freshN C K R) firstP) w hy0 h (by omega); rw [t1, t2, t3] at this; exact this)
  obtain ⟨F, hF⟩ : ∃ F, F = sendF (freshN C K R) firstP := ⟨_, rfl⟩
  rw [← hF] at X7 X8 hfl
  have HF := hide hF
  have hsz2 : (bs F).size = 28 := by rw [bs_size]; exact hfl
  have hbl : firstP.body.length = 5 := rfl
  have HL6 := hide L6
  have HS6 := hide S6
  have HR6 := hide R6
  have HP6 := hide P6
  have HW6 := hide W6
  clear L6 S6 R6 P6 W6 t1 t2 t3 hE hcc hx0 hy0 hF
  go_upto_region 13 with (first
    | (go_at_call 75; refine (unhide X7 _ (unhide HS6)).mono ?_; rintro e w7 ⟨rfl, h7, o7⟩; have HS7 := hide h7; have HO7 := hide o7; have P7 := o7.keep (unhide HP6) (by omega); obtain ⟨m0, m1, m2, m3, m4, m5, m6, m7⟩ := cells8 P7; have HP7 := hide P7; clear h7 o7 P7)
    | (go_at_call 44; refine (unhide X8 _ ((unhide HO7).keep (unhide HR6) (by omega))).mono ?_; unfold Pk.cells; rintro e w8 ⟨rfl, h8, o8⟩; have HR8 := hide h8; have HO8 := hide o8; have P8 := o8.keep (unhide HP7) (by omega); obtain ⟨n0, n1, n2, n3, n4, n5, n6, n7⟩ := cells8 P8; have HP8 := hide P8; clear h8 o8 P8))
  have hem : (bs []).toList.isEmpty = true := by rw [bs_toList]; rfl
  have h8 := block_lt (unhide HP8)
  have W8 : Below w.heap.size w w8 := below_only (below_only (unhide HW6) (unhide HO7) (fun k hk => by omega)) (unhide HO8) (fun k hk => by omega)
  have L8 : LnAt w8 w3.heap.size (firstL C K R s y) := (unhide HO8).keep ((unhide HO7).keep (unhide HL6) (by omega)) (by omega)
  have S8 := (unhide HO8).keep (unhide HS7) (by omega)
  go_quiet (fail)
  go_wp2
  go_ret2
  refine ⟨w3.heap.size, s, y, rfl, hb0, hs1, hy1, ⟨?_, ?_, ?_, ?_, ?_, ?_⟩, ?_⟩
  · exact block_alloc L8 _
  · exact block_alloc S8 _
  · rw [← unhide HF]; exact block_alloc (unhide HR8) _
  · show w3.heap.size ≠ s; omega
  · show w3.heap.size ≠ y; omega
  · exact hsne
  · exact below_drewN (grew_alloc W8 _) _

end Go.Proofs.Ytgpojbgjfibblaa.texts
