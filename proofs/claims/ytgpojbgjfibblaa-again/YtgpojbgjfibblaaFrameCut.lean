/-
  The length with which a text begins, read at once: it is the least length with which the document finds a frame.
  Conditions stand in each theorem.
-/
import Derived.Test.YtgpojbgjfibblaaFrameMath
namespace Go.Proofs.Ytgpojbgjfibblaa.texts
set_option linter.unusedVariables false

/-- the length with which a text begins, and how many bytes tell it (0: none) -/
def lenOf : List UInt8 → Nat × Nat
  | [] => (0, 0)
  | [a] => if a.toNat < 128 then (a.toNat, 1) else (0, 0)
  | a :: b :: _ => if a.toNat < 128 then (a.toNat, 1) else if (a.toNat - 128) * 256 + b.toNat < 128 ∨ 300 < (a.toNat - 128) * 256 + b.toNat then (0, 0) else ((a.toNat - 128) * 256 + b.toNat, 2)

theorem told_bytes {s : List UInt8} (k : Nat) (hk : k ≤ 300) (h : s.take (toldL k).length = toldL k) : ∃ b, s[0]? = some b ∧ (k < 128 → b.toNat = k) ∧ (128 ≤ k → b.toNat = 128 + k / 256 ∧ ∃ c, s[1]? = some c ∧ c.toNat = k % 256) := by
  by_cases hlt : k < 128
  · have e : toldL k = [UInt8.ofNat (k % 256)] := by unfold toldL; rw [if_pos hlt, be1]
    rw [e] at h
    have h0 := congrArg (fun l => l[0]?) h
    simp only [List.length_singleton, List.getElem?_take] at h0
    refine ⟨UInt8.ofNat (k % 256), by simpa using h0, fun _ => ?_, fun h' => by omega⟩
    rw [UInt8.toNat_ofNat']; omega
  · have e : toldL k = [UInt8.ofNat ((32768 + k) / 256 % 256), UInt8.ofNat ((32768 + k) % 256)] := by unfold toldL; rw [if_neg hlt, be2]
    rw [e] at h
    have h0 := congrArg (fun l => l[0]?) h
    have h1 := congrArg (fun l => l[1]?) h
    simp only [List.length_cons, List.length_nil, List.getElem?_take] at h0 h1
    refine ⟨UInt8.ofNat ((32768 + k) / 256 % 256), by simpa using h0, fun h' => by omega, fun _ => ⟨?_, UInt8.ofNat ((32768 + k) % 256), by simpa using h1, ?_⟩⟩
    · rw [UInt8.toNat_ofNat']; omega
    · rw [UInt8.toNat_ofNat']; omega

theorem lenOf_some {s : List UInt8} {n : Nat} (h : firstN s = some n) : lenOf s = (n, (toldL n).length) ∧ (toldL n).length + n ≤ s.length := by
  have hb := begins_facts (firstFrom_begins _ _ _ _ h)
  refine ⟨?_, hb.2.2.1⟩
  obtain ⟨a, h0, h1, h2⟩ := told_bytes n hb.1 hb.2.2.2
  rw [toldL_length]
  match s, h0, h2 with
  | [x], h0, h2 =>
    simp at h0; subst h0
    by_cases hn : n < 128
    · have := h1 hn
      simp only [lenOf]
      rw [if_pos (by omega), if_pos hn, this]
    · obtain ⟨_, c, hc, _⟩ := h2 (by omega)
      simp at hc
  | x :: y :: r, h0, h2 =>
    simp at h0; subst h0
    by_cases hn : n < 128
    · have := h1 hn
      simp only [lenOf]
      rw [if_pos (by omega), if_pos hn, this]
    · obtain ⟨e1, c, hc, e2⟩ := h2 (by omega)
      simp at hc; subst hc
      simp only [lenOf]
      have hL : (x.toNat - 128) * 256 + y.toNat = n := by omega
      rw [if_neg (by omega), if_neg hn, hL, if_neg (by omega)]

theorem lenOf_back {s : List UInt8} {n z : Nat} (h : lenOf s = (n, z)) (hz : z ≠ 0) (hl : n + z ≤ s.length) : firstN s = some n ∧ (toldL n).length = z := by
  have one : ∀ (x : UInt8) (r : List UInt8), x.toNat < 128 → s = x :: r → n = x.toNat → z = 1 → firstN s = some n ∧ (toldL n).length = z := by
    intro x r hx hs hn hz1
    subst hz1
    have e : toldL n = [x] := by
      unfold toldL
      rw [if_pos (by omega), be1, hn, Nat.mod_eq_of_lt (by omega)]
      simp
    have hlen : (toldL n).length = 1 := by rw [e]; rfl
    refine ⟨firstFrom_find (begins_mk (by omega) (by omega) (by omega) ?_) 0 301 (by omega) (by omega), hlen⟩
    rw [hlen, e, hs]
    rfl
  match s, h with
  | [], h => simp [lenOf] at h; omega
  | [x], h =>
    simp only [lenOf] at h
    split at h
    · rename_i hx
      simp at h
      exact one x [] hx rfl h.1.symm h.2.symm
    · simp at h; omega
  | x :: y :: r, h =>
    simp only [lenOf] at h
    split at h
    · rename_i hx
      simp at h
      exact one x (y :: r) hx rfl h.1.symm h.2.symm
    · rename_i hx
      split at h
      · simp at h; omega
      · rename_i hL
        simp at h
        obtain ⟨h1, h2⟩ := h
        subst h2
        have hx2 := x.toNat_lt
        have hy2 := y.toNat_lt
        have e : toldL n = [x, y] := by
          unfold toldL
          rw [if_neg (by omega), be2, show (32768 + n) / 256 % 256 = x.toNat by omega, show (32768 + n) % 256 = y.toNat by omega]
          simp
        have hlen : (toldL n).length = 2 := by rw [e]; rfl
        refine ⟨firstFrom_find (begins_mk (by omega) (by omega) (by omega) ?_) 0 301 (by omega) (by omega), hlen⟩
        rw [hlen, e]
        rfl

theorem lenOf_none {s : List UInt8} (h : (lenOf s).2 = 0 ∨ s.length < (lenOf s).1 + (lenOf s).2) : firstN s = none := by
  cases e : firstN s with
  | none => rfl
  | some n =>
    obtain ⟨h1, h2⟩ := lenOf_some e
    have hp := toldL_pos n
    rw [h1] at h
    simp only at h
    omega

end Go.Proofs.Ytgpojbgjfibblaa.texts
