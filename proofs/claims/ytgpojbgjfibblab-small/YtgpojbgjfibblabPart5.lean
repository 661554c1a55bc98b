/-
  Plain facts on packets' texts: what is written is read back; with one byte turned it is refused. Plain facts on lists of frames: what is joined is split again, what is split and joined is the text. The length with which a text begins, read at once: it is the least length with which the document finds a frame. The walks of the program's Join (packages bundle and gist), and of the length with which a text begins. The walks of the program's Split (packages bundle and gist).
  Conditions stand in each theorem.
-/
import Derived.Test.YtgpojbgjfibblabPart3
import Derived.Test.YtgpojbgjfibblabPart4
namespace Go.Proofs.Ytgpojbgjfibblab.texts
set_option linter.unusedVariables false

theorem numOf_be (n k : Nat) (h : n < 256 ^ k) : numOf (be n k) = n := by
  induction k generalizing n with
  | zero => simp [be, numOf]; simp at h; omega
  | succ k ih =>
    rw [be, numOf_snoc, ih (n / 256) (by rw [Nat.pow_succ] at h; omega), UInt8.toNat_ofNat']
    omega
theorem be_inj {n m k : Nat} (hn : n < 256 ^ k) (hm : m < 256 ^ k) (h : be n k = be m k) : n = m := by
  rw [← numOf_be n k hn, h, numOf_be m k hm]

theorem slice_mid (a b c : List UInt8) (i j : Nat) (hi : a.length = i) (hj : a.length + b.length = j) : ((a ++ (b ++ c)).take j).drop i = b := by
  subst hi hj
  rw [← List.append_assoc, List.take_append_of_le_length (by simp)]
  rw [List.take_of_length_le (by simp)]
  simp

/-- the parts of a written text -/
theorem text_parts (p : Pk) : textL p = be p.src 4 ++ (be p.dst 4 ++ (be p.port 2 ++ (be p.seq 2 ++ (be p.time 4 ++ (be p.id 2 ++ (be p.flags 1 ++ (be p.body.length 1 ++ (p.body ++ be (plain.sumOf (bareL p)) 2)))))))) := by
  simp [textL, bareL, hdrL, headL, restL]

theorem text_length (p : Pk) : (textL p).length = 22 + p.body.length := by
  rw [text_parts]; simp [be_length]; omega

theorem at19_text (p : Pk) (h : p.body.length ≤ 100) : at19 (textL p) = p.body.length := by
  unfold at19
  have e : textL p = (be p.src 4 ++ (be p.dst 4 ++ (be p.port 2 ++ (be p.seq 2 ++ (be p.time 4 ++ (be p.id 2 ++ be p.flags 1)))))) ++ (be p.body.length 1 ++ (p.body ++ be (plain.sumOf (bareL p)) 2)) := by
    rw [text_parts]; simp
  rw [e, List.getElem?_append_right (by simp [be_length])]
  simp [be]
  omega

theorem seem_text (p : Pk) (hp : p.ok) (h : p.body.length ≤ 100) : seemP (textL p) = p := by
  obtain ⟨h1, h2, h3, h4, h5, h6, h7⟩ := hp
  have e := text_parts p
  have hn := at19_text p h
  have g1 : (textL p).take 10 = be p.src 4 ++ (be p.dst 4 ++ be p.port 2) := by
    rw [e]; rw [show be p.src 4 ++ (be p.dst 4 ++ (be p.port 2 ++ (be p.seq 2 ++ (be p.time 4 ++ (be p.id 2 ++ (be p.flags 1 ++ (be p.body.length 1 ++ (p.body ++ be (plain.sumOf (bareL p)) 2)))))))) = (be p.src 4 ++ (be p.dst 4 ++ be p.port 2)) ++ (be p.seq 2 ++ (be p.time 4 ++ (be p.id 2 ++ (be p.flags 1 ++ (be p.body.length 1 ++ (p.body ++ be (plain.sumOf (bareL p)) 2)))))) by simp]
    exact List.take_left' (by simp [be_length])
  have g2 : ((textL p).take 19).drop 10 = be p.seq 2 ++ (be p.time 4 ++ (be p.id 2 ++ be p.flags 1)) := by
    rw [e]
    have := slice_mid (be p.src 4 ++ (be p.dst 4 ++ be p.port 2)) (be p.seq 2 ++ (be p.time 4 ++ (be p.id 2 ++ be p.flags 1))) (be p.body.length 1 ++ (p.body ++ be (plain.sumOf (bareL p)) 2)) 10 19 (by simp [be_length]) (by simp [be_length])
    simpa using this
  have g3 : ((textL p).take (20 + p.body.length)).drop 20 = p.body := by
    rw [e]
    have := slice_mid (be p.src 4 ++ (be p.dst 4 ++ (be p.port 2 ++ (be p.seq 2 ++ (be p.time 4 ++ (be p.id 2 ++ (be p.flags 1 ++ be p.body.length 1))))))) p.body (be (plain.sumOf (bareL p)) 2) 20 (20 + p.body.length) (by simp [be_length]) (by simp [be_length])
    simpa using this
  unfold seemP
  rw [hn, g1, g2, g3]
  unfold withP
  have a1 : ((be p.src 4 ++ (be p.dst 4 ++ be p.port 2)).take 4) = be p.src 4 := List.take_left' (by simp [be_length])
  have a2 : ((be p.src 4 ++ (be p.dst 4 ++ be p.port 2)).take 8).drop 4 = be p.dst 4 := slice_mid _ _ _ 4 8 (by simp [be_length]) (by simp [be_length])
  have a3 : ((be p.src 4 ++ (be p.dst 4 ++ be p.port 2)).take 10).drop 8 = be p.port 2 := by
    have := slice_mid (be p.src 4 ++ be p.dst 4) (be p.port 2) [] 8 10 (by simp [be_length]) (by simp [be_length])
    simpa using this
  have b1 : ((be p.seq 2 ++ (be p.time 4 ++ (be p.id 2 ++ be p.flags 1))).take 2) = be p.seq 2 := List.take_left' (by simp [be_length])
  have b2 : ((be p.seq 2 ++ (be p.time 4 ++ (be p.id 2 ++ be p.flags 1))).take 6).drop 2 = be p.time 4 := slice_mid _ _ _ 2 6 (by simp [be_length]) (by simp [be_length])
  have b3 : ((be p.seq 2 ++ (be p.time 4 ++ (be p.id 2 ++ be p.flags 1))).take 8).drop 6 = be p.id 2 := by
    have := slice_mid (be p.seq 2 ++ be p.time 4) (be p.id 2) (be p.flags 1) 6 8 (by simp [be_length]) (by simp [be_length])
    simpa using this
  have b4 : ((be p.seq 2 ++ (be p.time 4 ++ (be p.id 2 ++ be p.flags 1))).take 9).drop 8 = be p.flags 1 := by
    have := slice_mid (be p.seq 2 ++ (be p.time 4 ++ be p.id 2)) (be p.flags 1) [] 8 9 (by simp [be_length]) (by simp [be_length])
    simpa using this
  rw [a1, a2, a3, b1, b2, b3, b4, numOf_be _ 4 h1, numOf_be _ 4 h2, numOf_be _ 2 h3, numOf_be _ 2 h4, numOf_be _ 4 h5, numOf_be _ 2 h6, numOf_be _ 1 h7]

/-- what is written is read back -/
theorem read_text (p : Pk) (hp : p.ok) (h : p.body.length ≤ 100) : readE (textL p) = 0 ∧ readR (textL p) = p := by
  have e : readE (textL p) = 0 := by
    unfold readE
    rw [text_length, at19_text p h, if_neg (by omega), if_neg (by omega), if_neg (by omega), seem_text p hp h, if_pos rfl]
  exact ⟨e, by unfold readR; rw [if_pos e, seem_text p hp h]⟩

theorem psum_set (l : List UInt8) (i : Nat) (v : UInt8) (k : Nat) (hi : i < l.length) (hk : i < k) :
    plain.psum (l.set i v) k + (if i % 2 = 0 then 256 else 1) * l[i].toNat = plain.psum l k + (if i % 2 = 0 then 256 else 1) * v.toNat := by
  induction k with
  | zero => omega
  | succ k ih =>
    simp only [plain.psum]
    by_cases h : i = k
    · subst h
      have e : plain.psum (l.set i v) i = plain.psum l i := by
        clear ih hk
        have : ∀ m, m ≤ i → plain.psum (l.set i v) m = plain.psum l m := by
          intro m
          induction m with
          | zero => intro _; rfl
          | succ m im =>
            intro hm
            simp only [plain.psum]
            rw [im (by omega), List.getElem?_set_ne (by omega)]
        exact this i (Nat.le_refl _)
      rw [e, List.getElem?_set_self hi, List.getElem?_eq_getElem hi]
      simp only [Option.getD_some]
      omega
    · have := ih (by omega)
      rw [List.getElem?_set_ne h]
      omega

theorem sum_turned (l : List UInt8) (i : Nat) (v : UInt8) (hi : i < l.length) (hv : v ≠ l[i]) : plain.sumOf (l.set i v) ≠ plain.sumOf l := by
  have h := psum_set l i v l.length hi hi
  have hx : v.toNat ≠ l[i].toNat := fun e => hv (UInt8.toNat_inj.1 e)
  have b1 := v.toNat_lt
  have b2 := l[i].toNat_lt
  unfold plain.sumOf
  rw [List.length_set]
  have f1 := plain.fold16_le (plain.psum (l.set i v) l.length)
  have f2 := plain.fold16_le (plain.psum l l.length)
  intro e
  have e2 : plain.fold16 (plain.psum (l.set i v) l.length) = plain.fold16 (plain.psum l l.length) := by omega
  unfold plain.fold16 at e2
  generalize plain.psum (l.set i v) l.length = A at *
  generalize plain.psum l l.length = B at *
  generalize v.toNat = x at *
  generalize l[i].toNat = y at *
  split at h <;> split at e2 <;> split at e2 <;> omega

/-- a text that Read takes: its last two bytes are the sum of what stands ahead of them -/
theorem taken (l : List UInt8) (hl : l.length = 22 + at19 l) (h : textL (seemP l) = l) : l.drop (20 + at19 l) = be (plain.sumOf (l.take (20 + at19 l))) 2 := by
  have hb : (seemP l).body.length = at19 l := by simp [seemP, withP]; omega
  have hlen : (bareL (seemP l)).length = 20 + at19 l := by rw [bareL_length, hb]
  have e1 : (textL (seemP l)).take (20 + at19 l) = bareL (seemP l) := by
    unfold textL
    exact List.take_left' hlen
  have e2 : (textL (seemP l)).drop (20 + at19 l) = be (plain.sumOf (bareL (seemP l))) 2 := by
    unfold textL
    exact List.drop_left' hlen
  rw [h] at e1 e2
  rw [e2, e1]

theorem sumOf_lt (l : List UInt8) : plain.sumOf l < 256 ^ 2 := by unfold plain.sumOf; omega

/-- with one byte turned a written text is refused -/
theorem read_turned (p : Pk) (hp : p.ok) (h : p.body.length ≤ 100) (i : Nat) (v : UInt8) (hi : i < (textL p).length) (hv : v ≠ (textL p)[i]) :
    readE ((textL p).set i v) = if i = 19 then 4 else 5 := by
  have hlen := text_length p
  have hat := at19_text p h
  by_cases h19 : i = 19
  · subst h19
    rw [if_pos rfl]
    have ha : at19 ((textL p).set 19 v) = v.toNat := by
      unfold at19; rw [List.getElem?_set_self hi]; rfl
    have ho : at19 (textL p) = (textL p)[19].toNat := by
      unfold at19; rw [List.getElem?_eq_getElem hi]; rfl
    have hx : v.toNat ≠ (textL p)[19].toNat := fun e => hv (UInt8.toNat_inj.1 e)
    unfold readE
    rw [List.length_set, hlen, ha, if_neg (by omega), if_pos (by omega)]
  · rw [if_neg h19]
    have ha : at19 ((textL p).set i v) = p.body.length := by
      rw [← hat]; unfold at19; rw [List.getElem?_set_ne h19]
    have hne : ¬ textL (seemP ((textL p).set i v)) = (textL p).set i v := by
      intro e
      have t1 := taken _ (by rw [List.length_set, hlen, ha]) e
      have t0 := taken (textL p) (by rw [hlen, hat]) (by rw [seem_text p hp h])
      rw [ha] at t1
      rw [hat] at t0
      by_cases hlt : i < 20 + p.body.length
      · rw [List.drop_set_of_lt hlt, t0, List.take_set] at t1
        have hlt2 : i < ((textL p).take (20 + p.body.length)).length := by simp; omega
        have := sum_turned ((textL p).take (20 + p.body.length)) i v hlt2 (by simpa using hv)
        exact this (be_inj (sumOf_lt _) (sumOf_lt _) t1).symm
      · have e3 : ((textL p).set i v).take (20 + p.body.length) = (textL p).take (20 + p.body.length) := by
          rw [List.take_set, List.set_eq_of_length_le (by simp; omega)]
        rw [e3, ← t0] at t1
        have t2 : ((textL p).set i v)[i]? = (textL p)[i]? := by
          have a1 := List.getElem?_drop (xs := (textL p).set i v) (i := 20 + p.body.length) (j := i - (20 + p.body.length))
          have a2 := List.getElem?_drop (xs := textL p) (i := 20 + p.body.length) (j := i - (20 + p.body.length))
          rw [t1, a2] at a1
          rw [show 20 + p.body.length + (i - (20 + p.body.length)) = i by omega] at a1
          exact a1.symm
        rw [List.getElem?_set_self hi, List.getElem?_eq_getElem hi] at t2
        exact hv (by simpa using t2)
    unfold readE
    rw [List.length_set, hlen, ha, if_neg (by omega), if_neg (by omega), if_neg (by omega), if_neg hne]

end Go.Proofs.Ytgpojbgjfibblab.texts

namespace Go.Proofs.Ytgpojbgjfibblab.texts
set_option linter.unusedVariables false

theorem be1 (n : Nat) : be n 1 = [UInt8.ofNat (n % 256)] := by simp [be]
theorem be2 (n : Nat) : be n 2 = [UInt8.ofNat (n / 256 % 256), UInt8.ofNat (n % 256)] := by simp [be]

/-- a text begins with at most one length -/
theorem told_one {s : List UInt8} {n m : Nat} (hn : n ≤ 300) (hm : m ≤ 300) (h1 : s.take (toldL n).length = toldL n) (h2 : s.take (toldL m).length = toldL m) : n = m := by
  have key : ∀ k, k ≤ 300 → s.take (toldL k).length = toldL k → ∃ b, s[0]? = some b ∧ (k < 128 → b.toNat = k) ∧ (128 ≤ k → b.toNat = 128 + k / 256 ∧ ∃ c, s[1]? = some c ∧ c.toNat = k % 256) := by
    intro k hk h
    by_cases hlt : k < 128
    · have e : toldL k = [UInt8.ofNat (k % 256)] := by unfold toldL; rw [if_pos hlt, be1]
      rw [e] at h
      have h0 := congrArg (fun l => l[0]?) h
      simp only [List.length_singleton, List.getElem?_take] at h0
      refine ⟨UInt8.ofNat (k % 256), by simpa using h0, fun _ => ?_, fun h' => by omega⟩
      rw [UInt8.toNat_ofNat']; omega
    · have e : toldL k = [UInt8.ofNat ((32768 + k) / 256 % 256), UInt8.ofNat ((32768 + k) % 256)] := by unfold toldL; rw [if_neg hlt, be2]
      rw [e] at h
      have h0 := congrArg (fun l => l[0]?) h
      have h1 := congrArg (fun l => l[1]?) h
      simp only [List.length_cons, List.length_nil, List.getElem?_take] at h0 h1
      refine ⟨UInt8.ofNat ((32768 + k) / 256 % 256), by simpa using h0, fun h' => by omega, fun _ => ⟨?_, UInt8.ofNat ((32768 + k) % 256), by simpa using h1, ?_⟩⟩
      · rw [UInt8.toNat_ofNat']; omega
      · rw [UInt8.toNat_ofNat']; omega
  obtain ⟨b, hb, hb1, hb2⟩ := key n hn h1
  obtain ⟨c, hc, hc1, hc2⟩ := key m hm h2
  have hbc : b = c := by rw [hb] at hc; simpa using hc
  subst hbc
  by_cases h3 : n < 128 <;> by_cases h4 : m < 128
  · have := hb1 h3; have := hc1 h4; omega
  · have := hb1 h3; have := (hc2 (by omega)).1; omega
  · have := hc1 h4; have := (hb2 (by omega)).1; omega
  · obtain ⟨e1, x, hx, ex⟩ := hb2 (by omega)
    obtain ⟨e2, y, hy, ey⟩ := hc2 (by omega)
    have hxy : x = y := by rw [hx] at hy; simpa using hy
    subst hxy
    omega

theorem firstFrom_find {s : List UInt8} {n : Nat} (hb : begins s n = true) (k m : Nat) (hk : k ≤ n) (hm : n < k + m) : firstFrom s k m = some n := by
  induction m generalizing k with
  | zero => omega
  | succ m ih =>
    rw [firstFrom]
    by_cases h : begins s k = true
    · rw [if_pos h]
      have f1 := begins_facts hb
      have f2 := begins_facts h
      rw [told_one f2.1 f1.1 f2.2.2.2 f1.2.2.2]
    · rw [if_neg h]
      have : k ≠ n := fun e => h (e ▸ hb)
      exact ih (k + 1) (by omega) (by omega)

/-- the first frame of what Join made -/
theorem firstN_join (f r : List UInt8) (hf : f.length ≤ 300) : firstN (toldL f.length ++ (f ++ r)) = some f.length ∧ frameOf (toldL f.length ++ (f ++ r)) f.length = f ∧ restOf (toldL f.length ++ (f ++ r)) f.length = r := by
  have hp := toldL_pos f.length
  refine ⟨firstFrom_find (begins_mk hf (by simp; omega) (by simp) (List.take_left' rfl)) 0 301 (by omega) (by omega), ?_, ?_⟩
  · unfold frameOf
    rw [List.drop_left' rfl, List.take_left' rfl]
  · unfold restOf
    rw [← List.append_assoc]
    exact List.drop_left' (by simp)

theorem split_join (m : List (List UInt8)) (k : Nat) (hk : m.length ≤ k) (h : ∀ f ∈ m, f.length ≤ 300) : splitL k (joinL m) = some m := by
  induction m generalizing k with
  | nil => exact splitL_nil k
  | cons f r ih =>
    obtain ⟨h1, h2, h3⟩ := firstN_join f (joinL r) (h f (by simp))
    have hne : joinL (f :: r) ≠ [] := by
      intro e
      have he := congrArg List.length e
      have hp := toldL_pos f.length
      simp only [joinL, List.length_append, List.length_nil] at he
      omega
    obtain ⟨k, rfl⟩ : ∃ j, k = j + 1 := ⟨k - 1, by simp at hk; omega⟩
    rw [splitL_step k hne (n := f.length) h1]
    simp only [joinL]
    rw [h2, h3, ih k (by simp at hk; omega) (fun g hg => h g (by simp [hg]))]
    rfl

theorem join_split (k : Nat) (s : List UInt8) (fr : List (List UInt8)) (h : splitL k s = some fr) : joinL fr = s ∧ fr.length ≤ k ∧ ∀ f ∈ fr, f.length ≤ 300 := by
  induction k generalizing s fr with
  | zero =>
    by_cases hs : s = []
    · subst hs; rw [splitL_nil] at h; simp at h; subst h; simp [joinL]
    · rw [splitL_many hs] at h; simp at h
  | succ k ih =>
    by_cases hs : s = []
    · subst hs; rw [splitL_nil] at h; simp at h; subst h; simp [joinL]
    · cases hn : firstN s with
      | none => rw [splitL_bad _ hs hn] at h; simp at h
      | some n =>
        rw [splitL_step k hs hn] at h
        cases hr : splitL k (restOf s n) with
        | none => rw [hr] at h; simp at h
        | some r =>
          rw [hr] at h
          simp at h
          subst h
          obtain ⟨e1, e2, e3⟩ := ih _ _ hr
          obtain ⟨b1, b2, b3, b4⟩ := begins_facts (firstFrom_begins _ _ _ _ hn)
          have hl : (frameOf s n).length = n := by unfold frameOf; simp; omega
          refine ⟨?_, by simp; omega, ?_⟩
          · simp only [joinL, hl, e1]
            rw [← b4]
            unfold frameOf restOf
            rw [← List.drop_drop, List.take_append_drop, List.take_append_drop]
          · intro f hf
            rcases List.mem_cons.1 hf with rfl | hf
            · omega
            · exact e3 f hf

/-- what Split gives of what Join made, and back -/
theorem again_one (m : List (List UInt8)) (hk : m.length ≤ 8) (h : ∀ f ∈ m, f.length ≤ 300) : joinE m = 0 ∧ joinR m = joinL m ∧ splitE (joinL m) = 0 ∧ splitR (joinL m) = m := by
  have e := split_join m 8 hk h
  have j := joinE_good (ls := m) (by omega) h
  exact ⟨j.1, j.2, by unfold splitE; rw [e], by unfold splitR; rw [e]; rfl⟩
theorem again_two (s : List UInt8) (h : splitE s = 0) : joinE (splitR s) = 0 ∧ joinR (splitR s) = s := by
  unfold splitE at h
  cases e : splitL 8 s with
  | none => rw [e] at h; simp at h
  | some fr =>
    obtain ⟨e1, e2, e3⟩ := join_split 8 s fr e
    have er : splitR s = fr := by unfold splitR; rw [e]; rfl
    have j := joinE_good (ls := fr) (by omega) e3
    rw [er]
    exact ⟨j.1, by rw [j.2, e1]⟩
theorem split_bad (s : List UInt8) (h : splitE s ≠ 0) : splitR s = [] := by
  unfold splitE at h
  unfold splitR
  cases e : splitL 8 s with
  | none => rfl
  | some fr => rw [e] at h; simp at h

end Go.Proofs.Ytgpojbgjfibblab.texts

namespace Go.Proofs.Ytgpojbgjfibblab.texts
set_option linter.unusedVariables false

/-- the length with which a text begins, and how many bytes tell it (0: none) -/
def lenOf : List UInt8 → Nat × Nat
  | [] => (0, 0)
  | [a] => if a.toNat < 128 then (a.toNat, 1) else (0, 0)
  | a :: b :: _ => if a.toNat < 128 then (a.toNat, 1) else if (a.toNat - 128) * 256 + b.toNat < 128 ∨ 300 < (a.toNat - 128) * 256 + b.toNat then (0, 0) else ((a.toNat - 128) * 256 + b.toNat, 2)

theorem told_bytes {s : List UInt8} (k : Nat) (hk : k ≤ 300) (h : s.take (toldL k).length = toldL k) : ∃ b, s[0]? = some b ∧ (k < 128 → b.toNat = k) ∧ (128 ≤ k → b.toNat = 128 + k / 256 ∧ ∃ c, s[1]? = some c ∧ c.toNat = k % 256) := by
  by_cases hlt : k < 128
  · have e : toldL k = [UInt8.ofNat (k % 256)] := by unfold toldL; rw [if_pos hlt, be1]
    rw [e] at h
    have h0 := congrArg (fun l => l[0]?) h
    simp only [List.length_singleton, List.getElem?_take] at h0
    refine ⟨UInt8.ofNat (k % 256), by simpa using h0, fun _ => ?_, fun h' => by omega⟩
    rw [UInt8.toNat_ofNat']; omega
  · have e : toldL k = [UInt8.ofNat ((32768 + k) / 256 % 256), UInt8.ofNat ((32768 + k) % 256)] := by unfold toldL; rw [if_neg hlt, be2]
    rw [e] at h
    have h0 := congrArg (fun l => l[0]?) h
    have h1 := congrArg (fun l => l[1]?) h
    simp only [List.length_cons, List.length_nil, List.getElem?_take] at h0 h1
    refine ⟨UInt8.ofNat ((32768 + k) / 256 % 256), by simpa using h0, fun h' => by omega, fun _ => ⟨?_, UInt8.ofNat ((32768 + k) % 256), by simpa using h1, ?_⟩⟩
    · rw [UInt8.toNat_ofNat']; omega
    · rw [UInt8.toNat_ofNat']; omega

theorem lenOf_some {s : List UInt8} {n : Nat} (h : firstN s = some n) : lenOf s = (n, (toldL n).length) ∧ (toldL n).length + n ≤ s.length := by
  have hb := begins_facts (firstFrom_begins _ _ _ _ h)
  refine ⟨?_, hb.2.2.1⟩
  obtain ⟨a, h0, h1, h2⟩ := told_bytes n hb.1 hb.2.2.2
  rw [toldL_length]
  match s, h0, h2 with
  | [x], h0, h2 =>
    simp at h0; subst h0
    by_cases hn : n < 128
    · have := h1 hn
      simp only [lenOf]
      rw [if_pos (by omega), if_pos hn, this]
    · obtain ⟨_, c, hc, _⟩ := h2 (by omega)
      simp at hc
  | x :: y :: r, h0, h2 =>
    simp at h0; subst h0
    by_cases hn : n < 128
    · have := h1 hn
      simp only [lenOf]
      rw [if_pos (by omega), if_pos hn, this]
    · obtain ⟨e1, c, hc, e2⟩ := h2 (by omega)
      simp at hc; subst hc
      simp only [lenOf]
      have hL : (x.toNat - 128) * 256 + y.toNat = n := by omega
      rw [if_neg (by omega), if_neg hn, hL, if_neg (by omega)]

theorem lenOf_back {s : List UInt8} {n z : Nat} (h : lenOf s = (n, z)) (hz : z ≠ 0) (hl : n + z ≤ s.length) : firstN s = some n ∧ (toldL n).length = z := by
  have one : ∀ (x : UInt8) (r : List UInt8), x.toNat < 128 → s = x :: r → n = x.toNat → z = 1 → firstN s = some n ∧ (toldL n).length = z := by
    intro x r hx hs hn hz1
    subst hz1
    have e : toldL n = [x] := by
      unfold toldL
      rw [if_pos (by omega), be1, hn, Nat.mod_eq_of_lt (by omega)]
      simp
    have hlen : (toldL n).length = 1 := by rw [e]; rfl
    refine ⟨firstFrom_find (begins_mk (by omega) (by omega) (by omega) ?_) 0 301 (by omega) (by omega), hlen⟩
    rw [hlen, e, hs]
    rfl
  match s, h with
  | [], h => simp [lenOf] at h; omega
  | [x], h =>
    simp only [lenOf] at h
    split at h
    · rename_i hx
      simp at h
      exact one x [] hx rfl h.1.symm h.2.symm
    · simp at h; omega
  | x :: y :: r, h =>
    simp only [lenOf] at h
    split at h
    · rename_i hx
      simp at h
      exact one x (y :: r) hx rfl h.1.symm h.2.symm
    · rename_i hx
      split at h
      · simp at h; omega
      · rename_i hL
        simp at h
        obtain ⟨h1, h2⟩ := h
        subst h2
        have hx2 := x.toNat_lt
        have hy2 := y.toNat_lt
        have e : toldL n = [x, y] := by
          unfold toldL
          rw [if_neg (by omega), be2, show (32768 + n) / 256 % 256 = x.toNat by omega, show (32768 + n) % 256 = y.toNat by omega]
          simp
        have hlen : (toldL n).length = 2 := by rw [e]; rfl
        refine ⟨firstFrom_find (begins_mk (by omega) (by omega) (by omega) ?_) 0 301 (by omega) (by omega), hlen⟩
        rw [hlen, e]
        rfl

theorem lenOf_none {s : List UInt8} (h : (lenOf s).2 = 0 ∨ s.length < (lenOf s).1 + (lenOf s).2) : firstN s = none := by
  cases e : firstN s with
  | none => rfl
  | some n =>
    obtain ⟨h1, h2⟩ := lenOf_some e
    have hp := toldL_pos n
    rw [h1] at h
    simp only at h
    omega

end Go.Proofs.Ytgpojbgjfibblab.texts

namespace Go.Proofs.Ytgpojbgjfibblab.texts
open Go.RowKit
set_option linter.unusedVariables false
attribute [local go_sem ↓] Go.wp_at_zero Go.wp_at_succ
attribute [local go_sem] bs_size bs_append List.length_append bs_list bs_toList

/-- the length with which a text begins -/
theorem byte0 (l : List UInt8) (h : 0 < l.length) : ((bs l)[0]'(by rw [bs_size]; exact h)).toNat = l[0].toNat := rfl
theorem byte1 (l : List UInt8) (h : 1 < l.length) : ((bs l)[1]'(by rw [bs_size]; exact h)).toNat = l[1].toNat := rfl

theorem ret_ii {a b c d : Int} (h : a = b) (g : c = d) : Ending.returned (.tuple #[.int .i64 a, .int .i64 c]) = .returned (.tuple #[.int .i64 b, .int .i64 d]) := by rw [h, g]

theorem lenOf_low {s : List UInt8} (h : 0 < s.length) (ha : s[0].toNat < 128) : lenOf s = (s[0].toNat, 1) := by
  match s, h with
  | [x], _ => simp only [lenOf]; rw [if_pos (by simpa using ha)]; rfl
  | x :: y :: r, _ => simp only [lenOf]; rw [if_pos (by simpa using ha)]; rfl
theorem lenOf_lone {s : List UInt8} (h : s.length = 1) (ha : ¬ s[0].toNat < 128) : lenOf s = (0, 0) := by
  match s, h with
  | [x], _ => simp only [lenOf]; rw [if_neg (by simpa using ha)]
theorem lenOf_two {s : List UInt8} (h : 1 < s.length) (ha : ¬ s[0].toNat < 128) : lenOf s = if (s[0].toNat - 128) * 256 + s[1].toNat < 128 ∨ 300 < (s[0].toNat - 128) * 256 + s[1].toNat then (0, 0) else ((s[0].toNat - 128) * 256 + s[1].toNat, 2) := by
  match s, h with
  | x :: y :: r, _ => simp only [lenOf]; rw [if_neg (by simpa using ha)]; rfl

end Go.Proofs.Ytgpojbgjfibblab.texts

namespace Go.Proofs.Ytgpojbgjfibblab.texts
open Go.RowKit
set_option linter.unusedVariables false
attribute [local go_sem ↓] Go.wp_at_zero Go.wp_at_succ
attribute [local go_sem] bs_size bs_append List.length_append bs_list bs_toList bs_extract

theorem text_pos {t : List UInt8} (h : t ≠ []) : (t == []) = false := by rw [beq_eq_false_iff_ne]; exact h

end Go.Proofs.Ytgpojbgjfibblab.texts
