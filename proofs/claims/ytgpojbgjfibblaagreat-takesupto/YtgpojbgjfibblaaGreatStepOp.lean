/-
  The walks of step and of sender (package gistlaw).
  Conditions stand in each theorem.
-/
import Derived.Test.YtgpojbgjfibblaaGreatWorldTold
namespace Go.Proofs.YtgpojbgjfibblaaGreat.texts
open Go.RowKit
set_option linter.unusedVariables false
attribute [local go_sem ↓] Go.wp_at_zero Go.wp_at_succ

/-- one step of a script -/
structure Oq where
  kind : Int
  n : Int
  p : Pk
  s : List UInt8
def Oq.cells (o : Oq) : Array Value := #[.int .i64 o.kind, .int .i64 o.n, .int .u32 o.p.src, .int .u32 o.p.dst, .int .u16 o.p.port, .int .u16 o.p.seq, .int .u32 o.p.time, .int .u16 o.p.id, .int .u8 o.p.flags, .string (bs o.p.body), .string (bs o.s)]
structure Oq.ok (o : Oq) : Prop where
  kind : -9223372036854775808 ≤ o.kind ∧ o.kind ≤ 9223372036854775807
  n : -9223372036854775808 ≤ o.n ∧ o.n ≤ 9223372036854775807
  p : o.p.ok
  s : o.s.length ≤ maxLen

/-- what a call hands on -/
def Hands (Q : Bool → World → Prop) (e : Ending) (w : World) : Prop := ∃ v, e = .returned (.bool v) ∧ Q v w

set_option maxRecDepth 100000 in
set_option maxHeartbeats 2000000 in
theorem step_send (o : Oq) (wd : Nat) (w : World) (Q : Bool → World → Prop) (hk : o.kind = 1) (h : Calls Tryz.prog 14 #[.pointer (some ⟨wd, 0, none⟩), .agg o.p.cells] (w.alloc (.cells o.cells 43)) (Hands Q)) :
    Calls Tryz.prog 7 #[.pointer (some ⟨wd, 0, none⟩), .agg o.cells] w (Hands Q) := by
  have H := hide h
  clear h
  unfold Oq.cells
  rw [hk]
  go_enter Tryz.func7, Tryz.ntmps7
  go_wp2_with (go_at_call 14; refine Stop.out ?_)
  refine ⟨?_⟩
  have h := unhide H
  unfold Oq.cells at h
  rw [hk] at h
  refine Calls.mono h ?_
  rintro e w1 ⟨v, rfl, h1⟩
  have H1 := hide h1
  clear h1 h H
  go_wp2_with fail
  go_ret
  exact ⟨v, rfl, unhide H1⟩

set_option maxRecDepth 100000 in
set_option maxHeartbeats 2000000 in
theorem step_hear (o : Oq) (wd : Nat) (w : World) (Q : Bool → World → Prop) (hk : o.kind = 2) (h : Calls Tryz.prog 15 #[.pointer (some ⟨wd, 0, none⟩), .string (bs o.s)] (w.alloc (.cells o.cells 43)) (Hands Q)) :
    Calls Tryz.prog 7 #[.pointer (some ⟨wd, 0, none⟩), .agg o.cells] w (Hands Q) := by
  have H := hide h
  clear h
  unfold Oq.cells
  rw [hk]
  go_enter Tryz.func7, Tryz.ntmps7
  go_wp2_with (go_at_call 15; refine Stop.out ?_)
  refine ⟨?_⟩
  have h := unhide H
  unfold Oq.cells at h
  rw [hk] at h
  refine Calls.mono h ?_
  rintro e w1 ⟨v, rfl, h1⟩
  have H1 := hide h1
  clear h1 h H
  go_wp2_with fail
  go_ret
  exact ⟨v, rfl, unhide H1⟩

set_option maxRecDepth 100000 in
set_option maxHeartbeats 2000000 in
theorem step_sent (o : Oq) (wd : Nat) (w : World) (Q : Bool → World → Prop) (hk : o.kind = 4) (h : Calls Tryz.prog 9 #[.pointer (some ⟨wd, 0, none⟩), .bool true] (w.alloc (.cells o.cells 43)) (Hands Q)) :
    Calls Tryz.prog 7 #[.pointer (some ⟨wd, 0, none⟩), .agg o.cells] w (Hands Q) := by
  have H := hide h
  clear h
  unfold Oq.cells
  rw [hk]
  go_enter Tryz.func7, Tryz.ntmps7
  go_wp2_with (go_at_call 9; refine Stop.out ?_)
  refine ⟨?_⟩
  have h := unhide H
  unfold Oq.cells at h
  rw [hk] at h
  refine Calls.mono h ?_
  rintro e w1 ⟨v, rfl, h1⟩
  have H1 := hide h1
  clear h1 h H
  go_wp2_with fail
  go_ret
  exact ⟨v, rfl, unhide H1⟩

/-- a new sender's world -/
def SenderPost (w : World) (gB c k r : Nat) (e : Ending) (w' : World) : Prop :=
  ∃ wd gp gs ge gl, e = .returned (.tuple #[.pointer (some ⟨wd, 0, none⟩), .bool true]) ∧ w.heap.size ≤ wd ∧ w.heap.size ≤ gp ∧ w.heap.size ≤ gs ∧ w.heap.size ≤ ge ∧ w.heap.size ≤ gl ∧
    WAt w.heap.size w' wd gp gB (.pointer none) (.slice none 0 0) [] [] ∧ SAt w.heap.size w' gp gs ge gl (freshN c k r) (docFresh c k r) ∧ Below w.heap.size w w'

theorem docFresh_sts (w : World) (B c k r : Nat) : StsIn w B (docFresh c k r) := by
  intro i hi
  rw [docFresh_at]
  exact ⟨World.ownsRow_nil _ _ _ _, by decide⟩

set_option maxRecDepth 100000 in
set_option maxHeartbeats 4000000 in
theorem sender_yes (c k r gB : Nat) (w : World) (h1 : 1 ≤ c) (h2 : c ≤ 8) (h3 : 1 ≤ k) (h4 : k ≤ 4) (h5 : 2 ≤ r) (h6 : r ≤ 100) :
    Calls Tryz.prog 5 #[.agg #[.int .i64 c, .int .i64 k, .int .i64 r], .pointer (some ⟨gB, 0, none⟩)] w fun e w' => SenderPost w gB c k r e w' := by
  have CF0 := hide (heap_alloc_new w (.cells #[.int .i64 (c : Int), .int .i64 (k : Int), .int .i64 (r : Int)] 23))
  go_enter Tryz.func5, Tryz.ntmps5
  go_wp2_with fail
  go_at_call 11
  refine (gnewS_yes c k r _ h1 h2 h3 h4 h5 h6).mono ?_
  rintro e w1 ⟨gs, rfl, a1, a2, a3⟩
  have CF1 := block_keep (unhide CF0) a3
  have c0 : w1.cell? ⟨w.heap.size, 0, none⟩ = some (.int .i64 (c : Int)) := block_cell CF1 0
  have c1 : w1.cell? ⟨w.heap.size, 1, none⟩ = some (.int .i64 (k : Int)) := block_cell CF1 1
  have c2 : w1.cell? ⟨w.heap.size, 2, none⟩ = some (.int .i64 (r : Int)) := block_cell CF1 2
  have HS1 := hide a2
  have HB1 := hide (grew_call ((Below.refl _ _).alloc (Nat.le_refl _) _) a3 : Below w.heap.size w w1)
  have hgs : w.heap.size ≤ gs := by have := a1; simp at this; omega
  clear a1 a2 a3 CF1
  go_wp2_with fail
  go_at_call 12
  refine (dnew_yes c k r _ h1 h2 h3 h4 h5 h6).mono ?_
  rintro e w2 ⟨ge, gl, rfl, b1, b2, b3, b4, b5⟩
  have HS2 := hide (block_keep (unhide HS1) b5 : SndAt w2 gs (freshN c k r))
  have HD2 := hide b4
  have hz1 := (unhide HB1).size
  have HB2 := hide (grew_call (unhide HB1) b5)
  have hge : w.heap.size ≤ ge := by omega
  have hgl : w.heap.size ≤ gl := by omega
  clear b4 b5 c0 c1 c2 HS1 HB1
  go_wp2_with (go_at_call 13; refine (bits.num_any _ _).mono ?_; rintro e w5 ⟨rfl, h5'⟩; have h5' := h5'.symm; subst h5')
  go_ret2
  have hz2 := (unhide HB2).size
  have x1 : Below w2.heap.size w2 ((w2.alloc (.cells #[.pointer (some ⟨gs, 0, none⟩), .pointer none, .pointer (some ⟨ge, 0, none⟩)] 60)).alloc (.cells #[.pointer (some ⟨w2.heap.size, 0, none⟩), .pointer none, .slice none 0 0, .string (bs []), .pointer (some ⟨gB, 0, none⟩)] 62)) := ((Below.refl _ _).alloc (Nat.le_refl _) _).alloc (by simp) _
  refine ⟨w2.heap.size + 1, w2.heap.size, gs, ge, gl, rfl, by omega, by omega, hgs, hge, hgl, ⟨?_, World.ownsRow_nil _ _ _ _, by omega⟩, ⟨block_alloc (heap_alloc_new w2 _) _, block_keep (unhide HS2) x1, (unhide HD2).keep x1, docFresh_sts _ _ _ _ _, hgs, hge, hgl⟩, grew_call (unhide HB2) x1⟩
  have := heap_alloc_new (w2.alloc (.cells #[.pointer (some ⟨gs, 0, none⟩), .pointer none, .pointer (some ⟨ge, 0, none⟩)] 60)) (.cells #[.pointer (some ⟨w2.heap.size, 0, none⟩), .pointer none, .slice none 0 0, .string (bs []), .pointer (some ⟨gB, 0, none⟩)] 62)
  have e : (w2.alloc (.cells #[.pointer (some ⟨gs, 0, none⟩), .pointer none, .pointer (some ⟨ge, 0, none⟩)] 60)).heap.size = w2.heap.size + 1 := by simp
  rw [e] at this
  exact this

set_option maxRecDepth 100000 in
set_option maxHeartbeats 4000000 in
theorem sender_no (c k r : Int) (gB : Nat) (w : World) (h : confB c k r = false) :
    Calls Tryz.prog 5 #[.agg #[.int .i64 c, .int .i64 k, .int .i64 r], .pointer (some ⟨gB, 0, none⟩)] w fun e w' => e = .returned (.tuple #[.pointer none, .bool true]) ∧ Below w.heap.size w w' := by
  have CF0 := hide (heap_alloc_new w (.cells #[.int .i64 c, .int .i64 k, .int .i64 r] 23))
  have HC := hide h
  clear h
  go_enter Tryz.func5, Tryz.ntmps5
  go_wp2_with fail
  go_at_call 11
  refine (gnewS_no c k r _ (unhide HC)).mono ?_
  rintro e w1 ⟨rfl, a3⟩
  have CF1 := block_keep (unhide CF0) a3
  have c0 : w1.cell? ⟨w.heap.size, 0, none⟩ = some (.int .i64 c) := block_cell CF1 0
  have c1 : w1.cell? ⟨w.heap.size, 1, none⟩ = some (.int .i64 k) := block_cell CF1 1
  have c2 : w1.cell? ⟨w.heap.size, 2, none⟩ = some (.int .i64 r) := block_cell CF1 2
  have HB1 := hide (grew_call ((Below.refl _ _).alloc (Nat.le_refl _) _) a3 : Below w.heap.size w w1)
  clear a3 CF1
  go_wp2_with fail
  go_at_call 12
  refine (dnew_no c k r _ (unhide HC)).mono ?_
  rintro e w2 ⟨rfl, b5⟩
  have HB2 := hide (grew_call (unhide HB1) b5)
  clear b5 c0 c1 c2 HB1
  go_wp2_with (go_at_call 13; refine (bits.num_any _ _).mono ?_; rintro e w5 ⟨rfl, h5'⟩; have h5' := h5'.symm; subst h5')
  go_ret2
  exact ⟨rfl, unhide HB2⟩

end Go.Proofs.YtgpojbgjfibblaaGreat.texts
