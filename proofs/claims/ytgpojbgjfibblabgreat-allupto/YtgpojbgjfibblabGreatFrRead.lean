/-
  The walks of the program's frames taken apart (package frame): readTiny, readShort.
  Conditions stand in each theorem.
-/
import Derived.Test.YtgpojbgjfibblabGreatRcvModel
namespace Go.Proofs.YtgpojbgjfibblabGreat.texts
open Go.RowKit
set_option linter.unusedVariables false
attribute [local go_sem ↓] Go.wp_at_zero Go.wp_at_succ
attribute [local go_sem] bs_size be_length bs_append List.length_append bs_extract bs_list

theorem byte_at (l : List UInt8) (i : Nat) (h : i < l.length) (h' : i < (bs l).size) : ((bs l)[i]'h').toNat = byteN l i := by
  unfold byteN
  rw [List.getElem?_eq_getElem h]
  rfl
set_option maxRecDepth 100000 in
theorem and_one_fin : ∀ b : Fin 256, Go.bits BinOp.and IntKind.u8 (b.val : Int) 1 = ((b.val % 2 : Nat) : Int) := by decide
theorem and_one {b : Nat} (h : b < 256) : Go.bits BinOp.and IntKind.u8 (b : Int) 1 = ((b % 2 : Nat) : Int) := and_one_fin ⟨b, h⟩
set_option maxRecDepth 100000 in
theorem and_seven_fin : ∀ b : Fin 256, Go.bits BinOp.and IntKind.u8 (b.val : Int) 7 = ((b.val % 8 : Nat) : Int) := by decide
theorem and_seven {b : Nat} (h : b < 256) : Go.bits BinOp.and IntKind.u8 ((b / 2 : Nat) : Int) 7 = ((b / 2 % 8 : Nat) : Int) := and_seven_fin ⟨b / 2, by omega⟩
set_option maxRecDepth 100000 in
theorem and_three_fin : ∀ b : Fin 256, Go.bits BinOp.and IntKind.u8 (b.val : Int) 3 = ((b.val % 4 : Nat) : Int) := by decide
theorem and_three {b : Nat} (h : b < 256) : Go.bits BinOp.and IntKind.u8 ((b / 16 : Nat) : Int) 3 = ((b / 16 % 4 : Nat) : Int) := and_three_fin ⟨b / 16, by omega⟩
set_option maxRecDepth 100000 in
theorem and_high_fin : ∀ b : Fin 256, Go.bits BinOp.and IntKind.u8 (b.val : Int) 128 = (if b.val < 128 then 0 else 128) := by decide
theorem and_high {b : Nat} (h : b < 256) : Go.bits BinOp.and IntKind.u8 (b : Int) 128 = (if b < 128 then 0 else 128) := and_high_fin ⟨b, h⟩

set_option maxRecDepth 100000 in
set_option maxHeartbeats 2000000 in
theorem ftiny_any (f : Fr) (t : List UInt8) (w : World) (ht : t.length ≤ 9223372036854775807) :
    Calls Tryz.prog 127 #[.agg f.cells, .string (bs t)] w fun e w' => e = .returned (.tuple #[.agg (frOf (tinyO f t)).cells, .bool (tinyO f t).isSome]) ∧ Below w.heap.size w w' := by
  by_cases h0 : t.length = 0
  · have e : tinyO f t = none := by unfold tinyO; rw [if_pos (Or.inl h0)]
    rw [e]
    unfold Fr.cells
    go_enter Tryz.func127, Tryz.ntmps127
    go_wp2
    refine bodyPost_ret (v := .tuple #[.agg Fr.zero.cells, .bool false]) ?_ rfl ⟨rfl, ((Below.refl _ _).alloc (Nat.le_refl _) _).alloc (by simp) _⟩
    simp [results, Tryz.results127, go_sem, Fr.cells, Fr.zero, St.zero, bs]
  · have hs : 0 < (bs t).size := by rw [bs_size]; omega
    have hb := byte_at t 0 (by omega) hs
    have hlt := byteN_lt t 0
    have a1 := and_one hlt
    have a7 := and_seven hlt
    by_cases h1 : byteN t 0 % 2 = 1
    · have e : tinyO f t = none := by unfold tinyO; rw [if_pos (Or.inr h1)]
      rw [e]
      rw [h1] at a1
      unfold Fr.cells
      go_enter Tryz.func127, Tryz.ntmps127
      go_wp2
      refine bodyPost_ret (v := .tuple #[.agg Fr.zero.cells, .bool false]) ?_ rfl ⟨rfl, ((Below.refl _ _).alloc (Nat.le_refl _) _).alloc (by simp) _⟩
      simp [results, Tryz.results127, go_sem, Fr.cells, Fr.zero, St.zero, bs]
    · have e : tinyO f t = some { f with told := ⟨byteN t 0 / 16, f.told.stride, f.told.offset, f.told.lag, f.told.flags⟩, chk := byteN t 0 / 2 % 8, body := t.drop 1 } := by unfold tinyO; rw [if_neg (by omega)]
      rw [e]
      rw [show byteN t 0 % 2 = 0 by omega] at a1
      clear e h1
      generalize byteN t 0 = B at *
      unfold Fr.cells
      go_enter Tryz.func127, Tryz.ntmps127
      go_wp2
      refine bodyPost_ret (v := .tuple #[.agg (Fr.cells { f with told := ⟨B / 16, f.told.stride, f.told.offset, f.told.lag, f.told.flags⟩, chk := B / 2 % 8, body := t.drop 1 }), .bool true]) ?_ rfl ⟨rfl, ((Below.refl _ _).alloc (Nat.le_refl _) _).alloc (by simp) _⟩
      simp [results, Tryz.results127, go_sem, Fr.cells]

set_option maxRecDepth 100000 in
set_option maxHeartbeats 2000000 in
theorem fshort_any (f : Fr) (t : List UInt8) (w : World) (ht : t.length ≤ 9223372036854775807) :
    Calls Tryz.prog 126 #[.agg f.cells, .string (bs t)] w fun e w' => e = .returned (.tuple #[.agg (frOf (shortO f t)).cells, .bool (shortO f t).isSome]) ∧ Below w.heap.size w w' := by
  by_cases h0 : t.length < 4
  · have e : shortO f t = none := by unfold shortO; rw [if_pos (Or.inl h0)]
    rw [e]
    unfold Fr.cells
    go_enter Tryz.func126, Tryz.ntmps126
    go_wp2
    refine bodyPost_ret (v := .tuple #[.agg Fr.zero.cells, .bool false]) ?_ rfl ⟨rfl, ((Below.refl _ _).alloc (Nat.le_refl _) _).alloc (by simp) _⟩
    simp [results, Tryz.results126, go_sem, Fr.cells, Fr.zero, St.zero, bs]
  · have s0 : 0 < (bs t).size := by rw [bs_size]; omega
    have s1 : 1 < (bs t).size := by rw [bs_size]; omega
    have s2 : 2 < (bs t).size := by rw [bs_size]; omega
    have s3 : 3 < (bs t).size := by rw [bs_size]; omega
    have b0 := byte_at t 0 (by omega) s0
    have b1 := byte_at t 1 (by omega) s1
    have b2 := byte_at t 2 (by omega) s2
    have b3 := byte_at t 3 (by omega) s3
    have l0 := byteN_lt t 0
    have l1 := byteN_lt t 1
    have l2 := byteN_lt t 2
    have l3 := byteN_lt t 3
    have g4 : (4 : Int) ≤ (t.length : Int) := by omega
    have a3 := and_high l3
    by_cases h1 : 128 ≤ byteN t 3
    · have e : shortO f t = none := by unfold shortO; rw [if_pos (Or.inr h1)]
      rw [e]
      rw [if_neg (by omega)] at a3
      unfold Fr.cells
      go_enter Tryz.func126, Tryz.ntmps126
      go_wp2
      refine bodyPost_ret (v := .tuple #[.agg Fr.zero.cells, .bool false]) ?_ rfl ⟨rfl, ((Below.refl _ _).alloc (Nat.le_refl _) _).alloc (by simp) _⟩
      simp [results, Tryz.results126, go_sem, Fr.cells, Fr.zero, St.zero, bs]
    · have e : shortO f t = some { f with told := ⟨byteN t 0, f.told.stride, byteN t 1, byteN t 2, f.told.flags⟩, chk := byteN t 3, body := t.drop 4 } := by unfold shortO; rw [if_neg (by omega)]
      rw [e]
      rw [if_pos (by omega)] at a3
      clear e h1
      have hdl : t.take t.length = t := List.take_length
      generalize byteN t 0 = B0 at *
      generalize byteN t 1 = B1 at *
      generalize byteN t 2 = B2 at *
      generalize byteN t 3 = B3 at *
      unfold Fr.cells
      go_enter Tryz.func126, Tryz.ntmps126
      go_wp2
      refine bodyPost_ret (v := .tuple #[.agg (Fr.cells { f with told := ⟨B0, f.told.stride, B1, B2, f.told.flags⟩, chk := B3, body := t.drop 4 }), .bool true]) ?_ rfl ⟨rfl, ((Below.refl _ _).alloc (Nat.le_refl _) _).alloc (by simp) _⟩
      simp [results, Tryz.results126, go_sem, Fr.cells]

end Go.Proofs.YtgpojbgjfibblabGreat.texts
