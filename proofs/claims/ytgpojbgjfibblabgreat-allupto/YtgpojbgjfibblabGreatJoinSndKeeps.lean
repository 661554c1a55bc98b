/-
  The walk of the program's Hear (package sender). What always holds of a sender's contexts is kept by Send and Hear.
  Conditions stand in each theorem.
-/
import Derived.Test.YtgpojbgjfibblabGreatSendWalk
import Derived.Test.YtgpojbgjfibblabGreatPart12
namespace Go.Proofs.YtgpojbgjfibblabGreat.texts
open Go.RowKit
set_option linter.unusedVariables false
attribute [local go_sem ↓] Go.wp_at_zero Go.wp_at_succ
attribute [local go_sem] bs_size

/-- feedback: the error, the sender behind it -/
def hearE (m : Snd) (l : List UInt8) : Nat :=
  match l with
  | [x, y] => if y.toNat < 8 ∧ 0 < (m.at_ y.toNat).kept ∧ (x.toNat = 83 ∨ x.toNat = 68) then 0 else 7
  | _ => 7
def hearM (m : Snd) (l : List UInt8) : Snd :=
  match l with
  | [x, y] => if y.toNat < 8 ∧ 0 < (m.at_ y.toNat).kept then
      if x.toNat = 83 then m.set y.toNat { m.at_ y.toNat with whole := m.keep } else if x.toNat = 68 then m.set y.toNat { m.at_ y.toNat with full := m.keep } else m
    else m
  | _ => m
theorem hear_len {m : Snd} {l : List UInt8} (h : l.length ≠ 2) : hearE m l = 7 ∧ hearM m l = m := by
  match l, h with
  | [], _ => exact ⟨rfl, rfl⟩
  | [_], _ => exact ⟨rfl, rfl⟩
  | [_, _], h => exact absurd rfl h
  | _ :: _ :: _ :: _, _ => exact ⟨rfl, rfl⟩
theorem hear_two {m : Snd} {l : List UInt8} (h : l.length = 2) :
    hearE m l = (if l[1].toNat < 8 ∧ 0 < (m.at_ l[1].toNat).kept ∧ (l[0].toNat = 83 ∨ l[0].toNat = 68) then 0 else 7) ∧
    hearM m l = (if l[1].toNat < 8 ∧ 0 < (m.at_ l[1].toNat).kept then
      if l[0].toNat = 83 then m.set l[1].toNat { m.at_ l[1].toNat with whole := m.keep } else if l[0].toNat = 68 then m.set l[1].toNat { m.at_ l[1].toNat with full := m.keep } else m
    else m) := by
  match l, h with
  | [x, y], _ => exact ⟨rfl, rfl⟩
theorem hearM_ok {m : Snd} (hm : m.ok) (l : List UInt8) : (hearM m l).ok := by
  match l with
  | [] => exact hm
  | [_] => exact hm
  | [x, y] =>
    have o := Snd.at_ok hm y.toNat
    have hk := hm.k4
    simp only [hearM]
    split
    · split
      · exact Snd.set_ok hm _ ⟨o.src, o.dst, o.port, o.turn, o.count, o.rank, hk, o.full, o.age, o.s0, o.s1, o.s2, o.s3, o.kept⟩
      · split
        · exact Snd.set_ok hm _ ⟨o.src, o.dst, o.port, o.turn, o.count, o.rank, o.whole, hk, o.age, o.s0, o.s1, o.s2, o.s3, o.kept⟩
        · exact hm
    · exact hm
  | _ :: _ :: _ :: _ => exact hm

set_option maxRecDepth 100000 in
set_option maxHeartbeats 2000000 in
theorem hear_any (m : Snd) (b : Nat) (l : List UInt8) (w : World) (hm : m.ok) (h : SndAt w b m) (hl : l.length ≤ maxLen) :
    Calls Tryz.prog 50 #[.pointer (some ⟨b, 0, none⟩), .string (bs l)] w fun e w' => e = .returned (.int .i64 (hearE m l : Nat)) ∧ SndAt w' b (hearM m l) ∧ Only (· = b) w w' := by
  have hlen := hm.len
  unfold maxLen at hl
  by_cases h2 : l.length = 2
  · have hp : 0 < l.length := by omega
    have hp1 : 1 < l.length := by omega
    have hq : 0 < (bs l).size := by rw [bs_size]; exact hp
    have hq1 : 1 < (bs l).size := by rw [bs_size]; exact hp1
    have b0 := byte0 l hp
    have b1 := byte1 l hp1
    have l0 := l[0].toNat_lt
    have l1 := l[1].toNat_lt
    have hne : ((l.length : Int) != 2) = false := by simp; omega
    have hl2 : l = [l[0], l[1]] := by
      match l, h2 with
      | [x, y], _ => rfl
    obtain ⟨eE, eM⟩ := hear_two (m := m) (l := l) h2
    have EE := hide eE
    have EM := hide eM
    clear eE eM hl2
    generalize l[0].toNat = A at *
    generalize l[1].toNat = J at *
    clear h2
    by_cases hJ : J < 8
    · have j0 : (0 : Int) ≤ (J : Int) := by omega
      have j1 : (J : Int) < 8 := by omega
      have k29 : w.cell? ⟨b, 3 + J * 30 + 29, none⟩ = some (.int .i64 (m.at_ J).kept) := by rw [h.cell J 29 (by omega) (by omega)]; rfl
      have HS := hide h
      by_cases hK : 0 < (m.at_ J).kept
      · have hKb : (((m.at_ J).kept : Int) == 0) = false := by simp; omega
        have c1 : w.drew.cell? ⟨b, 1, none⟩ = some (.int .i64 m.keep) := (block_cell h 1).trans (Snd.get0 m 1 (by omega))
        have c6 : w.drew.cell? ⟨b, 3 + J * 30 + 6, none⟩ = some (.int .i64 (m.at_ J).whole) := (h.cell J 6 (by omega) (by omega)).trans rfl
        have c7 : w.drew.cell? ⟨b, 3 + J * 30 + 7, none⟩ = some (.int .i64 (m.at_ J).full) := (h.cell J 7 (by omega) (by omega)).trans rfl
        have f6 : w.drew.frozen? ⟨b, 3 + J * 30 + 6, none⟩ = false := h.free _
        have f7 : w.drew.frozen? ⟨b, 3 + J * 30 + 7, none⟩ = false := h.free _
        clear h
        by_cases hA : A = 83
        · subst hA
          have FE := hide (show hearE m l = 0 by rw [unhide EE, if_pos ⟨hJ, hK, by omega⟩])
          have FM := hide (show hearM m l = m.set J { m.at_ J with whole := m.keep } by rw [unhide EM, if_pos ⟨hJ, hK⟩, if_pos rfl])
          clear EE EM
          go_enter Tryz.func50, Tryz.ntmps50
          go_wp2_with fail
          go_region
          all_goals go_wp2
          all_goals go_ret
          all_goals
            refine ⟨ret_int (by rw [unhide FE]; rfl), ?_, ((Only.refl (· = b) w).setCell rfl _).drew⟩
            rw [unhide FM]
            have e := heap_setCell_same w b (3 + J * 30 + 6) _ _ (.int .i64 (m.keep : Int)) (unhide HS)
            rw [Nat.mul_comm J 30, Snd.put1 m J 6 { m.at_ J with whole := m.keep } _ (by omega) (by omega) rfl, Nat.mul_comm 30 J] at e
            exact e
        · by_cases hA2 : A = 68
          · subst hA2
            have FE := hide (show hearE m l = 0 by rw [unhide EE, if_pos ⟨hJ, hK, by omega⟩])
            have FM := hide (show hearM m l = m.set J { m.at_ J with full := m.keep } by rw [unhide EM, if_pos ⟨hJ, hK⟩, if_neg (by omega), if_pos rfl])
            clear EE EM
            go_enter Tryz.func50, Tryz.ntmps50
            go_wp2_with fail
            go_region
            all_goals go_wp2
            all_goals go_ret
            all_goals
              refine ⟨ret_int (by rw [unhide FE]; rfl), ?_, ((Only.refl (· = b) w).setCell rfl _).drew⟩
              rw [unhide FM]
              have e := heap_setCell_same w b (3 + J * 30 + 7) _ _ (.int .i64 (m.keep : Int)) (unhide HS)
              rw [Nat.mul_comm J 30, Snd.put1 m J 7 { m.at_ J with full := m.keep } _ (by omega) (by omega) rfl, Nat.mul_comm 30 J] at e
              exact e
          · have FE := hide (show hearE m l = 7 by rw [unhide EE, if_neg (by omega)])
            have FM := hide (show hearM m l = m by rw [unhide EM, if_pos ⟨hJ, hK⟩, if_neg hA, if_neg hA2])
            have hAb : ((A : Int) == 83) = false := by simp; omega
            have hAc : ((A : Int) == 68) = false := by simp; omega
            clear EE EM
            go_enter Tryz.func50, Tryz.ntmps50
            go_wp2
            go_ret
            exact ⟨ret_int (by rw [unhide FE]; rfl), by rw [unhide FM]; exact unhide HS, Only.refl _ _⟩
      · have hK0 : (m.at_ J).kept = 0 := by omega
        rw [hK0] at k29
        clear h
        go_enter Tryz.func50, Tryz.ntmps50
        go_wp2
        go_ret
        exact ⟨ret_int (by rw [unhide EE, if_neg (by omega)]; rfl), by rw [unhide EM, if_neg (by omega)]; exact unhide HS, Only.refl _ _⟩
    · have HS := hide h
      clear h
      go_enter Tryz.func50, Tryz.ntmps50
      go_wp2
      go_ret
      exact ⟨ret_int (by rw [unhide EE, if_neg (by omega)]; rfl), by rw [unhide EM, if_neg (by omega)]; exact unhide HS, Only.refl _ _⟩
  · obtain ⟨e1, e2⟩ := hear_len (m := m) h2
    rw [e1, e2]
    have HS := hide h
    clear h e1 e2
    go_enter Tryz.func50, Tryz.ntmps50
    go_wp2
    go_ret
    exact ⟨rfl, unhide HS, Only.refl _ _⟩

set_option maxRecDepth 100000 in
set_option maxHeartbeats 1000000 in
theorem ghear_any (m : Snd) (b : Nat) (l : List UInt8) (w : World) (hm : m.ok) (h : SndAt w b m) (hl : l.length ≤ maxLen) :
    Calls Tryz.prog 24 #[.pointer (some ⟨b, 0, none⟩), .string (bs l)] w fun e w' => e = .returned (.int .i64 (hearE m l : Nat)) ∧ SndAt w' b (hearM m l) ∧ Only (· = b) w w' := by
  have HM := hide hm
  have H := hide h
  have HL := hide hl
  clear hm h hl
  go_enter Tryz.func24, Tryz.ntmps24
  go_wp2_with (go_at_call 50; refine (hear_any m b l _ (unhide HM) (unhide H) (unhide HL)).mono ?_; rintro e w1 ⟨rfl, h1, h2⟩; have HS := hide h1; have HO := hide h2; clear h1 h2)
  go_ret
  exact ⟨rfl, unhide HS, unhide HO⟩

end Go.Proofs.YtgpojbgjfibblabGreat.texts

namespace Go.Proofs.YtgpojbgjfibblabGreat.texts
open Go.RowKit
set_option linter.unusedVariables false

theorem fit_set {m : Snd} (hm : m.ok) {k : Nat} (hf : Fit m k) {i : Nat} (hi : i < 8) {X : Cx} (h0 : 0 < (m.at_ i).kept) (h1 : X.src = (m.at_ i).src) (h2 : X.dst = (m.at_ i).dst) (h3 : X.port = (m.at_ i).port) (h4 : X.rank = (m.at_ i).rank) (h5 : X.kept = (m.at_ i).kept) : Fit (m.set i X) k := by
  have hl := hm.len
  have hk8 : k ≤ 8 := Nat.le_trans hf.le hm.c8
  have hik : i < k := by
    by_cases h : i < k
    · exact h
    · rw [hf.blank i (by omega) hi] at h0
      simp [Cx.blank] at h0
  have at' : ∀ j, (m.set i X).at_ j = if j = i then X else m.at_ j := fun j => Snd.set_at m i j X (by omega)
  have g : ∀ j, ((m.set i X).at_ j).src = (m.at_ j).src ∧ ((m.set i X).at_ j).dst = (m.at_ j).dst ∧ ((m.set i X).at_ j).port = (m.at_ j).port ∧ ((m.set i X).at_ j).rank = (m.at_ j).rank ∧ ((m.set i X).at_ j).kept = (m.at_ j).kept := by
    intro j
    rw [at']
    by_cases e : j = i
    · subst e; rw [if_pos rfl]; exact ⟨h1, h2, h3, h4, h5⟩
    · rw [if_neg e]; exact ⟨rfl, rfl, rfl, rfl, rfl⟩
  refine ⟨hf.le, fun j hj => by rw [(g j).2.2.2.2]; exact hf.has j hj, fun j hj hj8 => by rw [at', if_neg (by omega)]; exact hf.blank j hj hj8, fun j hj => by rw [(g j).2.2.2.1]; exact hf.low j hj, fun j l hj hl' he => ?_, fun j l hj hl' e1 e2 e3 => ?_⟩
  · rw [(g j).2.2.2.1, (g l).2.2.2.1] at he
    exact hf.inj j l hj hl' he
  · rw [(g j).1, (g l).1] at e1
    rw [(g j).2.1, (g l).2.1] at e2
    rw [(g j).2.2.1, (g l).2.2.1] at e3
    exact hf.uniq j l hj hl' e1 e2 e3
theorem fit_hear {m : Snd} (hm : m.ok) {k : Nat} (hf : Fit m k) (l : List UInt8) : Fit (hearM m l) k := by
  match l with
  | [] => exact hf
  | [_] => exact hf
  | [x, y] =>
    simp only [hearM]
    split
    · rename_i h
      split
      · exact fit_set hm hf h.1 h.2 rfl rfl rfl rfl rfl
      · split
        · exact fit_set hm hf h.1 h.2 rfl rfl rfl rfl rfl
        · exact hf
    · exact hf
  | _ :: _ :: _ :: _ => exact hf

/-- ages stay small -/
def Young (m : Snd) : Prop := ∀ i, i < 8 → (m.at_ i).age < 100
theorem young_fresh (c k r : Nat) : Young (freshN c k r) := fun i _ => by rw [fresh_at]; decide
theorem met_young {m : Snd} (hm : m.ok) (h : Young m) (p : Pk) : (metN m p).age < 100 := by
  have hc := chooseN_lt hm p.src p.dst p.port
  unfold metN
  simp only
  split
  · exact h _ hc
  · simp [beginN]
theorem young_send {m : Snd} (hm : m.ok) (h : Young m) (p : Pk) : Young (sendM m p) := by
  intro j hj
  have hr := hm.r100
  rw [send_at hm p j hj]
  split
  · simp only [sentN, addN]
    split
    · decide
    · rename_i hk
      have hw : ¬ (0 < (metN m p).whole ∨ m.refresh ≤ (metN m p).age + 1) := by
        intro e
        apply hk
        unfold sendK kindN
        rw [if_pos e]
      omega
  · have := h j hj
    unfold fallC
    split
    · exact this
    · exact this
theorem young_mem {m : Snd} (hm : m.ok) (h : Young m) : ∀ c ∈ m.cs, c.age + 1 < 4611686018427387904 := by
  intro c hc
  obtain ⟨j, hj, rfl⟩ := List.getElem_of_mem hc
  have hl := hm.len
  have e : m.cs[j] = m.at_ j := by simp [Snd.at_, List.getD_eq_getElem?_getD, hj]
  rw [e]
  have := h j (by omega)
  omega
theorem met_ok {m : Snd} (hm : m.ok) {p : Pk} (hp : p.ok) : (metN m p).ok := by
  have o := Snd.at_ok hm (chooseN m p.src p.dst p.port)
  unfold metN
  simp only
  split
  · exact o
  · exact beginN_ok o hp.src hp.dst hp.port hm.k4
theorem send_ok {m : Snd} (hm : m.ok) (h : Young m) {p : Pk} (hp : p.ok) : (sendM m p).ok := by
  have mo := met_ok hm hp
  have hq := met_young hm h p
  have hs := strideN_lt mo p
  exact Snd.set_ok (fallN_ok hm mo.rank) _ (sentN_ok mo (stateN_ok hp hs) hm.k4 (by omega))

end Go.Proofs.YtgpojbgjfibblabGreat.texts
