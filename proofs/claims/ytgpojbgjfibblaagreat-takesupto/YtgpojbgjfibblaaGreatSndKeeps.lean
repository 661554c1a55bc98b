/-
  What always holds of a sender's contexts is kept by Send and Hear.
  No condition but those in each theorem.
-/
import Derived.Test.YtgpojbgjfibblaaGreatPart17
import Derived.Test.YtgpojbgjfibblaaGreatHearWalk
namespace Go.Proofs.YtgpojbgjfibblaaGreat.texts
open Go.RowKit
set_option linter.unusedVariables false

theorem fit_set {m : Snd} (hm : m.ok) {k : Nat} (hf : Fit m k) {i : Nat} (hi : i < 8) {X : Cx} (h0 : 0 < (m.at_ i).kept) (h1 : X.src = (m.at_ i).src) (h2 : X.dst = (m.at_ i).dst) (h3 : X.port = (m.at_ i).port) (h4 : X.rank = (m.at_ i).rank) (h5 : X.kept = (m.at_ i).kept) : Fit (m.set i X) k := by
  have hl := hm.len
  have hk8 : k ≤ 8 := Nat.le_trans hf.le hm.c8
  have hik : i < k := by
    by_cases h : i < k
    · exact h
    · rw [hf.blank i (by omega) hi] at h0
      simp [Cx.blank] at h0
  have at' : ∀ j, (m.set i X).at_ j = if j = i then X else m.at_ j := fun j => Snd.set_at m i j X (by omega)
  have g : ∀ j, ((m.set i X).at_ j).src = (m.at_ j).src ∧ ((m.set i X).at_ j).dst = (m.at_ j).dst ∧ ((m.set i X).at_ j).port = (m.at_ j).port ∧ ((m.set i X).at_ j).rank = (m.at_ j).rank ∧ ((m.set i X).at_ j).kept = (m.at_ j).kept := by
    intro j
    rw [at']
    by_cases e : j = i
    · subst e; rw [if_pos rfl]; exact ⟨h1, h2, h3, h4, h5⟩
    · rw [if_neg e]; exact ⟨rfl, rfl, rfl, rfl, rfl⟩
  refine ⟨hf.le, fun j hj => by rw [(g j).2.2.2.2]; exact hf.has j hj, fun j hj hj8 => by rw [at', if_neg (by omega)]; exact hf.blank j hj hj8, fun j hj => by rw [(g j).2.2.2.1]; exact hf.low j hj, fun j l hj hl' he => ?_, fun j l hj hl' e1 e2 e3 => ?_⟩
  · rw [(g j).2.2.2.1, (g l).2.2.2.1] at he
    exact hf.inj j l hj hl' he
  · rw [(g j).1, (g l).1] at e1
    rw [(g j).2.1, (g l).2.1] at e2
    rw [(g j).2.2.1, (g l).2.2.1] at e3
    exact hf.uniq j l hj hl' e1 e2 e3
theorem fit_hear {m : Snd} (hm : m.ok) {k : Nat} (hf : Fit m k) (l : List UInt8) : Fit (hearM m l) k := by
  match l with
  | [] => exact hf
  | [_] => exact hf
  | [x, y] =>
    simp only [hearM]
    split
    · rename_i h
      split
      · exact fit_set hm hf h.1 h.2 rfl rfl rfl rfl rfl
      · split
        · exact fit_set hm hf h.1 h.2 rfl rfl rfl rfl rfl
        · exact hf
    · exact hf
  | _ :: _ :: _ :: _ => exact hf

/-- ages stay small -/
def Young (m : Snd) : Prop := ∀ i, i < 8 → (m.at_ i).age < 100
theorem young_fresh (c k r : Nat) : Young (freshN c k r) := fun i _ => by rw [fresh_at]; decide
theorem met_young {m : Snd} (hm : m.ok) (h : Young m) (p : Pk) : (metN m p).age < 100 := by
  have hc := chooseN_lt hm p.src p.dst p.port
  unfold metN
  simp only
  split
  · exact h _ hc
  · simp [beginN]
theorem young_send {m : Snd} (hm : m.ok) (h : Young m) (p : Pk) : Young (sendM m p) := by
  intro j hj
  have hr := hm.r100
  rw [send_at hm p j hj]
  split
  · simp only [sentN, addN]
    split
    · decide
    · rename_i hk
      have hw : ¬ (0 < (metN m p).whole ∨ m.refresh ≤ (metN m p).age + 1) := by
        intro e
        apply hk
        unfold sendK kindN
        rw [if_pos e]
      omega
  · have := h j hj
    unfold fallC
    split
    · exact this
    · exact this
theorem young_mem {m : Snd} (hm : m.ok) (h : Young m) : ∀ c ∈ m.cs, c.age + 1 < 4611686018427387904 := by
  intro c hc
  obtain ⟨j, hj, rfl⟩ := List.getElem_of_mem hc
  have hl := hm.len
  have e : m.cs[j] = m.at_ j := by simp [Snd.at_, List.getD_eq_getElem?_getD, hj]
  rw [e]
  have := h j (by omega)
  omega
theorem met_ok {m : Snd} (hm : m.ok) {p : Pk} (hp : p.ok) : (metN m p).ok := by
  have o := Snd.at_ok hm (chooseN m p.src p.dst p.port)
  unfold metN
  simp only
  split
  · exact o
  · exact beginN_ok o hp.src hp.dst hp.port hm.k4
theorem send_ok {m : Snd} (hm : m.ok) (h : Young m) {p : Pk} (hp : p.ok) : (sendM m p).ok := by
  have mo := met_ok hm hp
  have hq := met_young hm h p
  have hs := strideN_lt mo p
  exact Snd.set_ok (fallN_ok hm mo.rank) _ (sentN_ok mo (stateN_ok hp hs) hm.k4 (by omega))

end Go.Proofs.YtgpojbgjfibblaaGreat.texts
