/-
  The walk of the program's Hear (package sender).
  Conditions stand in each theorem.
-/
import Derived.Test.YtgpojbgjfibblaaGreatSendWalk
namespace Go.Proofs.YtgpojbgjfibblaaGreat.texts
open Go.RowKit
set_option linter.unusedVariables false
attribute [local go_sem ↓] Go.wp_at_zero Go.wp_at_succ
attribute [local go_sem] bs_size

/-- feedback: the error, the sender behind it -/
def hearE (m : Snd) (l : List UInt8) : Nat :=
  match l with
  | [x, y] => if y.toNat < 8 ∧ 0 < (m.at_ y.toNat).kept ∧ (x.toNat = 83 ∨ x.toNat = 68) then 0 else 7
  | _ => 7
def hearM (m : Snd) (l : List UInt8) : Snd :=
  match l with
  | [x, y] => if y.toNat < 8 ∧ 0 < (m.at_ y.toNat).kept then
      if x.toNat = 83 then m.set y.toNat { m.at_ y.toNat with whole := m.keep } else if x.toNat = 68 then m.set y.toNat { m.at_ y.toNat with full := m.keep } else m
    else m
  | _ => m
theorem hear_len {m : Snd} {l : List UInt8} (h : l.length ≠ 2) : hearE m l = 7 ∧ hearM m l = m := by
  match l, h with
  | [], _ => exact ⟨rfl, rfl⟩
  | [_], _ => exact ⟨rfl, rfl⟩
  | [_, _], h => exact absurd rfl h
  | _ :: _ :: _ :: _, _ => exact ⟨rfl, rfl⟩
theorem hear_two {m : Snd} {l : List UInt8} (h : l.length = 2) :
    hearE m l = (if l[1].toNat < 8 ∧ 0 < (m.at_ l[1].toNat).kept ∧ (l[0].toNat = 83 ∨ l[0].toNat = 68) then 0 else 7) ∧
    hearM m l = (if l[1].toNat < 8 ∧ 0 < (m.at_ l[1].toNat).kept then
      if l[0].toNat = 83 then m.set l[1].toNat { m.at_ l[1].toNat with whole := m.keep } else if l[0].toNat = 68 then m.set l[1].toNat { m.at_ l[1].toNat with full := m.keep } else m
    else m) := by
  match l, h with
  | [x, y], _ => exact ⟨rfl, rfl⟩
theorem hearM_ok {m : Snd} (hm : m.ok) (l : List UInt8) : (hearM m l).ok := by
  match l with
  | [] => exact hm
  | [_] => exact hm
  | [x, y] =>
    have o := Snd.at_ok hm y.toNat
    have hk := hm.k4
    simp only [hearM]
    split
    · split
      · exact Snd.set_ok hm _ ⟨o.src, o.dst, o.port, o.turn, o.count, o.rank, hk, o.full, o.age, o.s0, o.s1, o.s2, o.s3, o.kept⟩
      · split
        · exact Snd.set_ok hm _ ⟨o.src, o.dst, o.port, o.turn, o.count, o.rank, o.whole, hk, o.age, o.s0, o.s1, o.s2, o.s3, o.kept⟩
        · exact hm
    · exact hm
  | _ :: _ :: _ :: _ => exact hm

set_option maxRecDepth 100000 in
set_option maxHeartbeats 2000000 in
theorem hear_any (m : Snd) (b : Nat) (l : List UInt8) (w : World) (hm : m.ok) (h : SndAt w b m) (hl : l.length ≤ maxLen) :
    Calls Tryz.prog 55 #[.pointer (some ⟨b, 0, none⟩), .string (bs l)] w fun e w' => e = .returned (.int .i64 (hearE m l : Nat)) ∧ SndAt w' b (hearM m l) ∧ Only (· = b) w w' := by
  have hlen := hm.len
  unfold maxLen at hl
  by_cases h2 : l.length = 2
  · have hp : 0 < l.length := by omega
    have hp1 : 1 < l.length := by omega
    have hq : 0 < (bs l).size := by rw [bs_size]; exact hp
    have hq1 : 1 < (bs l).size := by rw [bs_size]; exact hp1
    have b0 := byte0 l hp
    have b1 := byte1 l hp1
    have l0 := l[0].toNat_lt
    have l1 := l[1].toNat_lt
    have hne : ((l.length : Int) != 2) = false := by simp; omega
    have hl2 : l = [l[0], l[1]] := by
      match l, h2 with
      | [x, y], _ => rfl
    obtain ⟨eE, eM⟩ := hear_two (m := m) (l := l) h2
    have EE := hide eE
    have EM := hide eM
    clear eE eM hl2
    generalize l[0].toNat = A at *
    generalize l[1].toNat = J at *
    clear h2
    by_cases hJ : J < 8
    · have j0 : (0 : Int) ≤ (J : Int) := by omega
      have j1 : (J : Int) < 8 := by omega
      have k29 : w.cell? ⟨b, 3 + J * 30 + 29, none⟩ = some (.int .i64 (m.at_ J).kept) := by rw [h.cell J 29 (by omega) (by omega)]; rfl
      have HS := hide h
      by_cases hK : 0 < (m.at_ J).kept
      · have hKb : (((m.at_ J).kept : Int) == 0) = false := by simp; omega
        have c1 : w.drew.cell? ⟨b, 1, none⟩ = some (.int .i64 m.keep) := (block_cell h 1).trans (Snd.get0 m 1 (by omega))
        have c6 : w.drew.cell? ⟨b, 3 + J * 30 + 6, none⟩ = some (.int .i64 (m.at_ J).whole) := (h.cell J 6 (by omega) (by omega)).trans rfl
        have c7 : w.drew.cell? ⟨b, 3 + J * 30 + 7, none⟩ = some (.int .i64 (m.at_ J).full) := (h.cell J 7 (by omega) (by omega)).trans rfl
        have f6 : w.drew.frozen? ⟨b, 3 + J * 30 + 6, none⟩ = false := h.free _
        have f7 : w.drew.frozen? ⟨b, 3 + J * 30 + 7, none⟩ = false := h.free _
        clear h
        by_cases hA : A = 83
        · subst hA
          have FE := hide (show hearE m l = 0 by rw [unhide EE, if_pos ⟨hJ, hK, by omega⟩])
          have FM := hide (show hearM m l = m.set J { m.at_ J with whole := m.keep } by rw [unhide EM, if_pos ⟨hJ, hK⟩, if_pos rfl])
          clear EE EM
          go_enter Tryz.func55, Tryz.ntmps55
          go_wp2_with fail
          go_region
          all_goals go_wp2
          all_goals go_ret
          all_goals
            refine ⟨ret_int (by rw [unhide FE]; rfl), ?_, ((Only.refl (· = b) w).setCell rfl _).drew⟩
            rw [unhide FM]
            have e := heap_setCell_same w b (3 + J * 30 + 6) _ _ (.int .i64 (m.keep : Int)) (unhide HS)
            rw [Nat.mul_comm J 30, Snd.put1 m J 6 { m.at_ J with whole := m.keep } _ (by omega) (by omega) rfl, Nat.mul_comm 30 J] at e
            exact e
        · by_cases hA2 : A = 68
          · subst hA2
            have FE := hide (show hearE m l = 0 by rw [unhide EE, if_pos ⟨hJ, hK, by omega⟩])
            have FM := hide (show hearM m l = m.set J { m.at_ J with full := m.keep } by rw [unhide EM, if_pos ⟨hJ, hK⟩, if_neg (by omega), if_pos rfl])
            clear EE EM
            go_enter Tryz.func55, Tryz.ntmps55
            go_wp2_with fail
            go_region
            all_goals go_wp2
            all_goals go_ret
            all_goals
              refine ⟨ret_int (by rw [unhide FE]; rfl), ?_, ((Only.refl (· = b) w).setCell rfl _).drew⟩
              rw [unhide FM]
              have e := heap_setCell_same w b (3 + J * 30 + 7) _ _ (.int .i64 (m.keep : Int)) (unhide HS)
              rw [Nat.mul_comm J 30, Snd.put1 m J 7 { m.at_ J with full := m.keep } _ (by omega) (by omega) rfl, Nat.mul_comm 30 J] at e
              exact e
          · have FE := hide (show hearE m l = 7 by rw [unhide EE, if_neg (by omega)])
            have FM := hide (show hearM m l = m by rw [unhide EM, if_pos ⟨hJ, hK⟩, if_neg hA, if_neg hA2])
            have hAb : ((A : Int) == 83) = false := by simp; omega
            have hAc : ((A : Int) == 68) = false := by simp; omega
            clear EE EM
            go_enter Tryz.func55, Tryz.ntmps55
            go_wp2
            go_ret
            exact ⟨ret_int (by rw [unhide FE]; rfl), by rw [unhide FM]; exact unhide HS, Only.refl _ _⟩
      · have hK0 : (m.at_ J).kept = 0 := by omega
        rw [hK0] at k29
        clear h
        go_enter Tryz.func55, Tryz.ntmps55
        go_wp2
        go_ret
        exact ⟨ret_int (by rw [unhide EE, if_neg (by omega)]; rfl), by rw [unhide EM, if_neg (by omega)]; exact unhide HS, Only.refl _ _⟩
    · have HS := hide h
      clear h
      go_enter Tryz.func55, Tryz.ntmps55
      go_wp2
      go_ret
      exact ⟨ret_int (by rw [unhide EE, if_neg (by omega)]; rfl), by rw [unhide EM, if_neg (by omega)]; exact unhide HS, Only.refl _ _⟩
  · obtain ⟨e1, e2⟩ := hear_len (m := m) h2
    rw [e1, e2]
    have HS := hide h
    clear h e1 e2
    go_enter Tryz.func55, Tryz.ntmps55
    go_wp2
    go_ret
    exact ⟨rfl, unhide HS, Only.refl _ _⟩

set_option maxRecDepth 100000 in
set_option maxHeartbeats 1000000 in
theorem ghear_any (m : Snd) (b : Nat) (l : List UInt8) (w : World) (hm : m.ok) (h : SndAt w b m) (hl : l.length ≤ maxLen) :
    Calls Tryz.prog 29 #[.pointer (some ⟨b, 0, none⟩), .string (bs l)] w fun e w' => e = .returned (.int .i64 (hearE m l : Nat)) ∧ SndAt w' b (hearM m l) ∧ Only (· = b) w w' := by
  have HM := hide hm
  have H := hide h
  have HL := hide hl
  clear hm h hl
  go_enter Tryz.func29, Tryz.ntmps29
  go_wp2_with (go_at_call 55; refine (hear_any m b l _ (unhide HM) (unhide H) (unhide HL)).mono ?_; rintro e w1 ⟨rfl, h1, h2⟩; have HS := hide h1; have HO := hide h2; clear h1 h2)
  go_ret
  exact ⟨rfl, unhide HS, unhide HO⟩

end Go.Proofs.YtgpojbgjfibblaaGreat.texts
