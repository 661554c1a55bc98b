/-
  The walk of the program's Hear (package sender).
  Conditions stand in each theorem.
-/
import Derived.Test.YtgpojbgjfibblabSendWalk
namespace Go.Proofs.Ytgpojbgjfibblab.texts
open Go.RowKit
set_option linter.unusedVariables false
attribute [local go_sem ↓] Go.wp_at_zero Go.wp_at_succ
attribute [local go_sem] bs_size

/-- feedback: the error, the sender behind it -/
def hearE (m : Snd) (l : List UInt8) : Nat :=
  match l with
  | [x, y] => if y.toNat < 8 ∧ 0 < (m.at_ y.toNat).kept ∧ (x.toNat = 83 ∨ x.toNat = 68) then 0 else 7
  | _ => 7
def hearM (m : Snd) (l : List UInt8) : Snd :=
  match l with
  | [x, y] => if y.toNat < 8 ∧ 0 < (m.at_ y.toNat).kept then
      if x.toNat = 83 then m.set y.toNat { m.at_ y.toNat with whole := m.keep } else if x.toNat = 68 then m.set y.toNat { m.at_ y.toNat with full := m.keep } else m
    else m
  | _ => m
theorem hear_len {m : Snd} {l : List UInt8} (h : l.length ≠ 2) : hearE m l = 7 ∧ hearM m l = m := by
  match l, h with
  | [], _ => exact ⟨rfl, rfl⟩
  | [_], _ => exact ⟨rfl, rfl⟩
  | [_, _], h => exact absurd rfl h
  | _ :: _ :: _ :: _, _ => exact ⟨rfl, rfl⟩
theorem hear_two {m : Snd} {l : List UInt8} (h : l.length = 2) :
    hearE m l = (if l[1].toNat < 8 ∧ 0 < (m.at_ l[1].toNat).kept ∧ (l[0].toNat = 83 ∨ l[0].toNat = 68) then 0 else 7) ∧
    hearM m l = (if l[1].toNat < 8 ∧ 0 < (m.at_ l[1].toNat).kept then
      if l[0].toNat = 83 then m.set l[1].toNat { m.at_ l[1].toNat with whole := m.keep } else if l[0].toNat = 68 then m.set l[1].toNat { m.at_ l[1].toNat with full := m.keep } else m
    else m) := by
  match l, h with
  | [x, y], _ => exact ⟨rfl, rfl⟩
theorem hearM_ok {m : Snd} (hm : m.ok) (l : List UInt8) : (hearM m l).ok := by
  match l with
  | [] => exact hm
  | [_] => exact hm
  | [x, y] =>
    have o := Snd.at_ok hm y.toNat
    have hk := hm.k4
    simp only [hearM]
    split
    · split
      · exact Snd.set_ok hm _ ⟨o.src, o.dst, o.port, o.turn, o.count, o.rank, hk, o.full, o.age, o.s0, o.s1, o.s2, o.s3, o.kept⟩
      · split
        · exact Snd.set_ok hm _ ⟨o.src, o.dst, o.port, o.turn, o.count, o.rank, o.whole, hk, o.age, o.s0, o.s1, o.s2, o.s3, o.kept⟩
        · exact hm
    · exact hm
  | _ :: _ :: _ :: _ => exact hm

end Go.Proofs.Ytgpojbgjfibblab.texts
