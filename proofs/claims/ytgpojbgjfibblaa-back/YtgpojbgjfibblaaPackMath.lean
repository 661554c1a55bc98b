/-
  Plain facts on packets' texts: what is written is read back; with one byte turned it is refused.
  Conditions stand in each theorem.
-/
import Derived.Test.YtgpojbgjfibblaaReadRest
namespace Go.Proofs.Ytgpojbgjfibblaa.texts
set_option linter.unusedVariables false

theorem numOf_be (n k : Nat) (h : n < 256 ^ k) : numOf (be n k) = n := by
  induction k generalizing n with
  | zero => simp [be, numOf]; simp at h; omega
  | succ k ih =>
    rw [be, numOf_snoc, ih (n / 256) (by rw [Nat.pow_succ] at h; omega), UInt8.toNat_ofNat']
    omega
theorem be_inj {n m k : Nat} (hn : n < 256 ^ k) (hm : m < 256 ^ k) (h : be n k = be m k) : n = m := by
  rw [← numOf_be n k hn, h, numOf_be m k hm]

theorem slice_mid (a b c : List UInt8) (i j : Nat) (hi : a.length = i) (hj : a.length + b.length = j) : ((a ++ (b ++ c)).take j).drop i = b := by
  subst hi hj
  rw [← List.append_assoc, List.take_append_of_le_length (by simp)]
  rw [List.take_of_length_le (by simp)]
  simp

/-- the parts of a written text -/
theorem text_parts (p : Pk) : textL p = be p.src 4 ++ (be p.dst 4 ++ (be p.port 2 ++ (be p.seq 2 ++ (be p.time 4 ++ (be p.id 2 ++ (be p.flags 1 ++ (be p.body.length 1 ++ (p.body ++ be (plain.sumOf (bareL p)) 2)))))))) := by
  simp [textL, bareL, hdrL, headL, restL]

theorem text_length (p : Pk) : (textL p).length = 22 + p.body.length := by
  rw [text_parts]; simp [be_length]; omega

theorem at19_text (p : Pk) (h : p.body.length ≤ 100) : at19 (textL p) = p.body.length := by
  unfold at19
  have e : textL p = (be p.src 4 ++ (be p.dst 4 ++ (be p.port 2 ++ (be p.seq 2 ++ (be p.time 4 ++ (be p.id 2 ++ be p.flags 1)))))) ++ (be p.body.length 1 ++ (p.body ++ be (plain.sumOf (bareL p)) 2)) := by
    rw [text_parts]; simp
  rw [e, List.getElem?_append_right (by simp [be_length])]
  simp [be]
  omega

theorem seem_text (p : Pk) (hp : p.ok) (h : p.body.length ≤ 100) : seemP (textL p) = p := by
  obtain ⟨h1, h2, h3, h4, h5, h6, h7⟩ := hp
  have e := text_parts p
  have hn := at19_text p h
  have g1 : (textL p).take 10 = be p.src 4 ++ (be p.dst 4 ++ be p.port 2) := by
    rw [e]; rw [show be p.src 4 ++ (be p.dst 4 ++ (be p.port 2 ++ (be p.seq 2 ++ (be p.time 4 ++ (be p.id 2 ++ (be p.flags 1 ++ (be p.body.length 1 ++ (p.body ++ be (plain.sumOf (bareL p)) 2)))))))) = (be p.src 4 ++ (be p.dst 4 ++ be p.port 2)) ++ (be p.seq 2 ++ (be p.time 4 ++ (be p.id 2 ++ (be p.flags 1 ++ (be p.body.length 1 ++ (p.body ++ be (plain.sumOf (bareL p)) 2)))))) by simp]
    exact List.take_left' (by simp [be_length])
  have g2 : ((textL p).take 19).drop 10 = be p.seq 2 ++ (be p.time 4 ++ (be p.id 2 ++ be p.flags 1)) := by
    rw [e]
    have := slice_mid (be p.src 4 ++ (be p.dst 4 ++ be p.port 2)) (be p.seq 2 ++ (be p.time 4 ++ (be p.id 2 ++ be p.flags 1))) (be p.body.length 1 ++ (p.body ++ be (plain.sumOf (bareL p)) 2)) 10 19 (by simp [be_length]) (by simp [be_length])
    simpa using this
  have g3 : ((textL p).take (20 + p.body.length)).drop 20 = p.body := by
    rw [e]
    have := slice_mid (be p.src 4 ++ (be p.dst 4 ++ (be p.port 2 ++ (be p.seq 2 ++ (be p.time 4 ++ (be p.id 2 ++ (be p.flags 1 ++ be p.body.length 1))))))) p.body (be (plain.sumOf (bareL p)) 2) 20 (20 + p.body.length) (by simp [be_length]) (by simp [be_length])
    simpa using this
  unfold seemP
  rw [hn, g1, g2, g3]
  unfold withP
  have a1 : ((be p.src 4 ++ (be p.dst 4 ++ be p.port 2)).take 4) = be p.src 4 := List.take_left' (by simp [be_length])
  have a2 : ((be p.src 4 ++ (be p.dst 4 ++ be p.port 2)).take 8).drop 4 = be p.dst 4 := slice_mid _ _ _ 4 8 (by simp [be_length]) (by simp [be_length])
  have a3 : ((be p.src 4 ++ (be p.dst 4 ++ be p.port 2)).take 10).drop 8 = be p.port 2 := by
    have := slice_mid (be p.src 4 ++ be p.dst 4) (be p.port 2) [] 8 10 (by simp [be_length]) (by simp [be_length])
    simpa using this
  have b1 : ((be p.seq 2 ++ (be p.time 4 ++ (be p.id 2 ++ be p.flags 1))).take 2) = be p.seq 2 := List.take_left' (by simp [be_length])
  have b2 : ((be p.seq 2 ++ (be p.time 4 ++ (be p.id 2 ++ be p.flags 1))).take 6).drop 2 = be p.time 4 := slice_mid _ _ _ 2 6 (by simp [be_length]) (by simp [be_length])
  have b3 : ((be p.seq 2 ++ (be p.time 4 ++ (be p.id 2 ++ be p.flags 1))).take 8).drop 6 = be p.id 2 := by
    have := slice_mid (be p.seq 2 ++ be p.time 4) (be p.id 2) (be p.flags 1) 6 8 (by simp [be_length]) (by simp [be_length])
    simpa using this
  have b4 : ((be p.seq 2 ++ (be p.time 4 ++ (be p.id 2 ++ be p.flags 1))).take 9).drop 8 = be p.flags 1 := by
    have := slice_mid (be p.seq 2 ++ (be p.time 4 ++ be p.id 2)) (be p.flags 1) [] 8 9 (by simp [be_length]) (by simp [be_length])
    simpa using this
  rw [a1, a2, a3, b1, b2, b3, b4, numOf_be _ 4 h1, numOf_be _ 4 h2, numOf_be _ 2 h3, numOf_be _ 2 h4, numOf_be _ 4 h5, numOf_be _ 2 h6, numOf_be _ 1 h7]

/-- what is written is read back -/
theorem read_text (p : Pk) (hp : p.ok) (h : p.body.length ≤ 100) : readE (textL p) = 0 ∧ readR (textL p) = p := by
  have e : readE (textL p) = 0 := by
    unfold readE
    rw [text_length, at19_text p h, if_neg (by omega), if_neg (by omega), if_neg (by omega), seem_text p hp h, if_pos rfl]
  exact ⟨e, by unfold readR; rw [if_pos e, seem_text p hp h]⟩

theorem psum_set (l : List UInt8) (i : Nat) (v : UInt8) (k : Nat) (hi : i < l.length) (hk : i < k) :
    plain.psum (l.set i v) k + (if i % 2 = 0 then 256 else 1) * l[i].toNat = plain.psum l k + (if i % 2 = 0 then 256 else 1) * v.toNat := by
  induction k with
  | zero => omega
  | succ k ih =>
    simp only [plain.psum]
    by_cases h : i = k
    · subst h
      have e : plain.psum (l.set i v) i = plain.psum l i := by
        clear ih hk
        have : ∀ m, m ≤ i → plain.psum (l.set i v) m = plain.psum l m := by
          intro m
          induction m with
          | zero => intro _; rfl
          | succ m im =>
            intro hm
            simp only [plain.psum]
            rw [im (by omega), List.getElem?_set_ne (by omega)]
        exact this i (Nat.le_refl _)
      rw [e, List.getElem?_set_self hi, List.getElem?_eq_getElem hi]
      simp only [Option.getD_some]
      omega
    · have := ih (by omega)
      rw [List.getElem?_set_ne h]
      omega

theorem sum_turned (l : List UInt8) (i : Nat) (v : UInt8) (hi : i < l.length) (hv : v ≠ l[i]) : plain.sumOf (l.set i v) ≠ plain.sumOf l := by
  have h := psum_set l i v l.length hi hi
  have hx : v.toNat ≠ l[i].toNat := fun e => hv (UInt8.toNat_inj.1 e)
  have b1 := v.toNat_lt
  have b2 := l[i].toNat_lt
  unfold plain.sumOf
  rw [List.length_set]
  have f1 := plain.fold16_le (plain.psum (l.set i v) l.length)
  have f2 := plain.fold16_le (plain.psum l l.length)
  intro e
  have e2 : plain.fold16 (plain.psum (l.set i v) l.length) = plain.fold16 (plain.psum l l.length) := by omega
  unfold plain.fold16 at e2
  generalize plain.psum (l.set i v) l.length = A at *
  generalize plain.psum l l.length = B at *
  generalize v.toNat = x at *
  generalize l[i].toNat = y at *
  split at h <;> split at e2 <;> split at e2 <;> omega

/-- a text that Read takes: its last two bytes are the sum of what stands ahead of them -/
theorem taken (l : List UInt8) (hl : l.length = 22 + at19 l) (h : textL (seemP l) = l) : l.drop (20 + at19 l) = be (plain.sumOf (l.take (20 + at19 l))) 2 := by
  have hb : (seemP l).body.length = at19 l := by simp [seemP, withP]; omega
  have hlen : (bareL (seemP l)).length = 20 + at19 l := by rw [bareL_length, hb]
  have e1 : (textL (seemP l)).take (20 + at19 l) = bareL (seemP l) := by
    unfold textL
    exact List.take_left' hlen
  have e2 : (textL (seemP l)).drop (20 + at19 l) = be (plain.sumOf (bareL (seemP l))) 2 := by
    unfold textL
    exact List.drop_left' hlen
  rw [h] at e1 e2
  rw [e2, e1]

theorem sumOf_lt (l : List UInt8) : plain.sumOf l < 256 ^ 2 := by unfold plain.sumOf; omega

/-- with one byte turned a written text is refused -/
theorem read_turned (p : Pk) (hp : p.ok) (h : p.body.length ≤ 100) (i : Nat) (v : UInt8) (hi : i < (textL p).length) (hv : v ≠ (textL p)[i]) :
    readE ((textL p).set i v) = if i = 19 then 4 else 5 := by
  have hlen := text_length p
  have hat := at19_text p h
  by_cases h19 : i = 19
  · subst h19
    rw [if_pos rfl]
    have ha : at19 ((textL p).set 19 v) = v.toNat := by
      unfold at19; rw [List.getElem?_set_self hi]; rfl
    have ho : at19 (textL p) = (textL p)[19].toNat := by
      unfold at19; rw [List.getElem?_eq_getElem hi]; rfl
    have hx : v.toNat ≠ (textL p)[19].toNat := fun e => hv (UInt8.toNat_inj.1 e)
    unfold readE
    rw [List.length_set, hlen, ha, if_neg (by omega), if_pos (by omega)]
  · rw [if_neg h19]
    have ha : at19 ((textL p).set i v) = p.body.length := by
      rw [← hat]; unfold at19; rw [List.getElem?_set_ne h19]
    have hne : ¬ textL (seemP ((textL p).set i v)) = (textL p).set i v := by
      intro e
      have t1 := taken _ (by rw [List.length_set, hlen, ha]) e
      have t0 := taken (textL p) (by rw [hlen, hat]) (by rw [seem_text p hp h])
      rw [ha] at t1
      rw [hat] at t0
      by_cases hlt : i < 20 + p.body.length
      · rw [List.drop_set_of_lt hlt, t0, List.take_set] at t1
        have hlt2 : i < ((textL p).take (20 + p.body.length)).length := by simp; omega
        have := sum_turned ((textL p).take (20 + p.body.length)) i v hlt2 (by simpa using hv)
        exact this (be_inj (sumOf_lt _) (sumOf_lt _) t1).symm
      · have e3 : ((textL p).set i v).take (20 + p.body.length) = (textL p).take (20 + p.body.length) := by
          rw [List.take_set, List.set_eq_of_length_le (by simp; omega)]
        rw [e3, ← t0] at t1
        have t2 : ((textL p).set i v)[i]? = (textL p)[i]? := by
          have a1 := List.getElem?_drop (xs := (textL p).set i v) (i := 20 + p.body.length) (j := i - (20 + p.body.length))
          have a2 := List.getElem?_drop (xs := textL p) (i := 20 + p.body.length) (j := i - (20 + p.body.length))
          rw [t1, a2] at a1
          rw [show 20 + p.body.length + (i - (20 + p.body.length)) = i by omega] at a1
          exact a1.symm
        rw [List.getElem?_set_self hi, List.getElem?_eq_getElem hi] at t2
        exact hv (by simpa using t2)
    unfold readE
    rw [List.length_set, hlen, ha, if_neg (by omega), if_neg (by omega), if_neg (by omega), if_neg hne]

end Go.Proofs.Ytgpojbgjfibblaa.texts
