/-
  Plain facts on lists of frames: what is joined is split again, what is split and joined is the text.
  Conditions stand in each theorem.
-/
import Derived.Test.YtgpojbgjfibblaaRefSplit
import Derived.Test.YtgpojbgjfibblaaPackMath
namespace Go.Proofs.Ytgpojbgjfibblaa.texts
set_option linter.unusedVariables false

theorem be1 (n : Nat) : be n 1 = [UInt8.ofNat (n % 256)] := by simp [be]
theorem be2 (n : Nat) : be n 2 = [UInt8.ofNat (n / 256 % 256), UInt8.ofNat (n % 256)] := by simp [be]

/-- a text begins with at most one length -/
theorem told_one {s : List UInt8} {n m : Nat} (hn : n ≤ 300) (hm : m ≤ 300) (h1 : s.take (toldL n).length = toldL n) (h2 : s.take (toldL m).length = toldL m) : n = m := by
  have key : ∀ k, k ≤ 300 → s.take (toldL k).length = toldL k → ∃ b, s[0]? = some b ∧ (k < 128 → b.toNat = k) ∧ (128 ≤ k → b.toNat = 128 + k / 256 ∧ ∃ c, s[1]? = some c ∧ c.toNat = k % 256) := by
    intro k hk h
    by_cases hlt : k < 128
    · have e : toldL k = [UInt8.ofNat (k % 256)] := by unfold toldL; rw [if_pos hlt, be1]
      rw [e] at h
      have h0 := congrArg (fun l => l[0]?) h
      simp only [List.length_singleton, List.getElem?_take] at h0
      refine ⟨UInt8.ofNat (k % 256), by simpa using h0, fun _ => ?_, fun h' => by omega⟩
      rw [UInt8.toNat_ofNat']; omega
    · have e : toldL k = [UInt8.ofNat ((32768 + k) / 256 % 256), UInt8.ofNat ((32768 + k) % 256)] := by unfold toldL; rw [if_neg hlt, be2]
      rw [e] at h
      have h0 := congrArg (fun l => l[0]?) h
      have h1 := congrArg (fun l => l[1]?) h
      simp only [List.length_cons, List.length_nil, List.getElem?_take] at h0 h1
      refine ⟨UInt8.ofNat ((32768 + k) / 256 % 256), by simpa using h0, fun h' => by omega, fun _ => ⟨?_, UInt8.ofNat ((32768 + k) % 256), by simpa using h1, ?_⟩⟩
      · rw [UInt8.toNat_ofNat']; omega
      · rw [UInt8.toNat_ofNat']; omega
  obtain ⟨b, hb, hb1, hb2⟩ := key n hn h1
  obtain ⟨c, hc, hc1, hc2⟩ := key m hm h2
  have hbc : b = c := by rw [hb] at hc; simpa using hc
  subst hbc
  by_cases h3 : n < 128 <;> by_cases h4 : m < 128
  · have := hb1 h3; have := hc1 h4; omega
  · have := hb1 h3; have := (hc2 (by omega)).1; omega
  · have := hc1 h4; have := (hb2 (by omega)).1; omega
  · obtain ⟨e1, x, hx, ex⟩ := hb2 (by omega)
    obtain ⟨e2, y, hy, ey⟩ := hc2 (by omega)
    have hxy : x = y := by rw [hx] at hy; simpa using hy
    subst hxy
    omega

theorem firstFrom_find {s : List UInt8} {n : Nat} (hb : begins s n = true) (k m : Nat) (hk : k ≤ n) (hm : n < k + m) : firstFrom s k m = some n := by
  induction m generalizing k with
  | zero => omega
  | succ m ih =>
    rw [firstFrom]
    by_cases h : begins s k = true
    · rw [if_pos h]
      have f1 := begins_facts hb
      have f2 := begins_facts h
      rw [told_one f2.1 f1.1 f2.2.2.2 f1.2.2.2]
    · rw [if_neg h]
      have : k ≠ n := fun e => h (e ▸ hb)
      exact ih (k + 1) (by omega) (by omega)

/-- the first frame of what Join made -/
theorem firstN_join (f r : List UInt8) (hf : f.length ≤ 300) : firstN (toldL f.length ++ (f ++ r)) = some f.length ∧ frameOf (toldL f.length ++ (f ++ r)) f.length = f ∧ restOf (toldL f.length ++ (f ++ r)) f.length = r := by
  have hp := toldL_pos f.length
  refine ⟨firstFrom_find (begins_mk hf (by simp; omega) (by simp) (List.take_left' rfl)) 0 301 (by omega) (by omega), ?_, ?_⟩
  · unfold frameOf
    rw [List.drop_left' rfl, List.take_left' rfl]
  · unfold restOf
    rw [← List.append_assoc]
    exact List.drop_left' (by simp)

theorem split_join (m : List (List UInt8)) (k : Nat) (hk : m.length ≤ k) (h : ∀ f ∈ m, f.length ≤ 300) : splitL k (joinL m) = some m := by
  induction m generalizing k with
  | nil => exact splitL_nil k
  | cons f r ih =>
    obtain ⟨h1, h2, h3⟩ := firstN_join f (joinL r) (h f (by simp))
    have hne : joinL (f :: r) ≠ [] := by
      intro e
      have he := congrArg List.length e
      have hp := toldL_pos f.length
      simp only [joinL, List.length_append, List.length_nil] at he
      omega
    obtain ⟨k, rfl⟩ : ∃ j, k = j + 1 := ⟨k - 1, by simp at hk; omega⟩
    rw [splitL_step k hne (n := f.length) h1]
    simp only [joinL]
    rw [h2, h3, ih k (by simp at hk; omega) (fun g hg => h g (by simp [hg]))]
    rfl

theorem join_split (k : Nat) (s : List UInt8) (fr : List (List UInt8)) (h : splitL k s = some fr) : joinL fr = s ∧ fr.length ≤ k ∧ ∀ f ∈ fr, f.length ≤ 300 := by
  induction k generalizing s fr with
  | zero =>
    by_cases hs : s = []
    · subst hs; rw [splitL_nil] at h; simp at h; subst h; simp [joinL]
    · rw [splitL_many hs] at h; simp at h
  | succ k ih =>
    by_cases hs : s = []
    · subst hs; rw [splitL_nil] at h; simp at h; subst h; simp [joinL]
    · cases hn : firstN s with
      | none => rw [splitL_bad _ hs hn] at h; simp at h
      | some n =>
        rw [splitL_step k hs hn] at h
        cases hr : splitL k (restOf s n) with
        | none => rw [hr] at h; simp at h
        | some r =>
          rw [hr] at h
          simp at h
          subst h
          obtain ⟨e1, e2, e3⟩ := ih _ _ hr
          obtain ⟨b1, b2, b3, b4⟩ := begins_facts (firstFrom_begins _ _ _ _ hn)
          have hl : (frameOf s n).length = n := by unfold frameOf; simp; omega
          refine ⟨?_, by simp; omega, ?_⟩
          · simp only [joinL, hl, e1]
            rw [← b4]
            unfold frameOf restOf
            rw [← List.drop_drop, List.take_append_drop, List.take_append_drop]
          · intro f hf
            rcases List.mem_cons.1 hf with rfl | hf
            · omega
            · exact e3 f hf

/-- what Split gives of what Join made, and back -/
theorem again_one (m : List (List UInt8)) (hk : m.length ≤ 8) (h : ∀ f ∈ m, f.length ≤ 300) : joinE m = 0 ∧ joinR m = joinL m ∧ splitE (joinL m) = 0 ∧ splitR (joinL m) = m := by
  have e := split_join m 8 hk h
  have j := joinE_good (ls := m) (by omega) h
  exact ⟨j.1, j.2, by unfold splitE; rw [e], by unfold splitR; rw [e]; rfl⟩
theorem again_two (s : List UInt8) (h : splitE s = 0) : joinE (splitR s) = 0 ∧ joinR (splitR s) = s := by
  unfold splitE at h
  cases e : splitL 8 s with
  | none => rw [e] at h; simp at h
  | some fr =>
    obtain ⟨e1, e2, e3⟩ := join_split 8 s fr e
    have er : splitR s = fr := by unfold splitR; rw [e]; rfl
    have j := joinE_good (ls := fr) (by omega) e3
    rw [er]
    exact ⟨j.1, by rw [j.2, e1]⟩
theorem split_bad (s : List UInt8) (h : splitE s ≠ 0) : splitR s = [] := by
  unfold splitE at h
  unfold splitR
  cases e : splitL 8 s with
  | none => rfl
  | some fr => rw [e] at h; simp at h

end Go.Proofs.Ytgpojbgjfibblaa.texts
