/-
  A frame of a packet, taken: what it is taken apart into, and that the packet comes out again. The form of a frame, by the document; what a frame tells.
  Conditions stand in each theorem.
-/
import Derived.Test.YtgpojbgjfibblabGreatRcvModel
import Derived.Test.YtgpojbgjfibblabGreatJoinListAids
import Derived.Test.YtgpojbgjfibblabGreatJoinBookLooks
namespace Go.Proofs.YtgpojbgjfibblabGreat.texts
open Go.RowKit
set_option linter.unusedVariables false

/-- what fits is told back by its lowest bits -/
theorem told16 {v r k p : Nat} (hk : k ≤ 16) (hp : p < 2 ^ k) (hv : v < 65536) (h : bits.fitR 16 v r k p = true) : (bits.lowR 16 k r p ((v % 2 ^ k : Nat) : Int)).toNat = v := by
  have t := (bits.tells_facts 16 r k p v (by omega) (by omega) (by omega) (by show (p : Int) < 2 ^ (k : Int).toNat; rw [Int.toNat_natCast]; exact_mod_cast hp) (by omega) (by show (v : Int) < 2 ^ 16; omega)).2.2.2.2
  rw [h] at t
  have e := (beq_iff_eq.1 t.symm)
  have e2 : bits.pw (k : Int).toNat = ((2 ^ k : Nat) : Int) := by unfold bits.pw; rw [Int.toNat_natCast]; simp
  rw [e2, ← Int.natCast_emod] at e
  rw [e]
  omega
theorem told32 {v r k p : Nat} (hk : k ≤ 32) (hp : p < 2 ^ k) (hv : v < 4294967296) (h : bits.fitR 32 v r k p = true) : (bits.lowR 32 k r p ((v % 2 ^ k : Nat) : Int)).toNat = v := by
  have t := (bits.tells_facts 32 r k p v (by omega) (by omega) (by omega) (by show (p : Int) < 2 ^ (k : Int).toNat; rw [Int.toNat_natCast]; exact_mod_cast hp) (by omega) (by show (v : Int) < 2 ^ 32; omega)).2.2.2.2
  rw [h] at t
  have e := (beq_iff_eq.1 t.symm)
  have e2 : bits.pw (k : Int).toNat = ((2 ^ k : Nat) : Int) := by unfold bits.pw; rw [Int.toNat_natCast]; simp
  rw [e2, ← Int.natCast_emod] at e
  rw [e]
  omega

/-- the lowest bits that a frame of a kind says of a state -/
def lowSt (kind : Nat) (n : St) : St := if kind = 1 then ⟨n.seq % 256, 0, n.offset % 256, n.lag % 256, 0⟩ else if kind = 0 then ⟨n.seq % 16, 0, 0, 0, 0⟩ else n
/-- a frame of a packet, taken apart -/
def partsF (kind turn cid : Nat) (n : St) (p : Pk) : Fr :=
  ⟨kind, cid, turn, if kind = 3 then p.src else 0, if kind = 3 then p.dst else 0, if kind = 3 then p.port else 0, lowSt kind n, chk (widthN kind) p, p.body⟩

theorem byteN_cons (b : UInt8) (l : List UInt8) : byteN (b :: l) 0 = b.toNat := by simp [byteN]
theorem byteN_succ (b : UInt8) (l : List UInt8) (i : Nat) : byteN (b :: l) (i + 1) = byteN l i := by simp [byteN]
theorem byteN_right (a b : List UInt8) (i : Nat) (h : a.length ≤ i) : byteN (a ++ b) i = byteN b (i - a.length) := by
  unfold byteN; rw [List.getElem?_append_right h]
theorem ofNat_toNat {n : Nat} (h : n < 256) : (UInt8.ofNat n).toNat = n := by rw [UInt8.toNat_ofNat']; omega
theorem byteN_be (n : Nat) (h : n < 256) (l : List UInt8) : byteN (be n 1 ++ l) 0 = n := by
  rw [wbe1 n h, List.singleton_append, byteN_cons, ofNat_toNat h]

theorem stateN_bodyless (p : Pk) (s : Nat) : stateN (bodyless p) s = stateN p s := rfl
theorem rest_parts (p : Pk) (l : List UInt8) : restL p ++ l = be p.seq 2 ++ (be p.time 4 ++ (be p.id 2 ++ (be p.flags 1 ++ l))) := by simp [restL]
theorem fields_rest (p : Pk) (hp : p.ok) (l : List UInt8) : fieldsP (restL p ++ l) (byteN (restL p ++ l) 8) = { bodyless p with src := 0, dst := 0, port := 0 } := by
  rw [rest_parts]
  have b1 : (be p.seq 2 ++ (be p.time 4 ++ (be p.id 2 ++ (be p.flags 1 ++ l)))).take 2 = be p.seq 2 := List.take_left' (by simp [be_length])
  have b2 : ((be p.seq 2 ++ (be p.time 4 ++ (be p.id 2 ++ (be p.flags 1 ++ l)))).take 6).drop 2 = be p.time 4 := slice_mid _ _ _ 2 6 (by simp [be_length]) (by simp [be_length])
  have b3 : ((be p.seq 2 ++ (be p.time 4 ++ (be p.id 2 ++ (be p.flags 1 ++ l)))).take 8).drop 6 = be p.id 2 := by
    have := slice_mid (be p.seq 2 ++ be p.time 4) (be p.id 2) (be p.flags 1 ++ l) 6 8 (by simp [be_length]) (by simp [be_length])
    simpa using this
  have b4 : byteN (be p.seq 2 ++ (be p.time 4 ++ (be p.id 2 ++ (be p.flags 1 ++ l)))) 8 = p.flags := by
    rw [byteN_right _ _ _ (by simp [be_length]), byteN_right _ _ _ (by simp [be_length]), byteN_right _ _ _ (by simp [be_length])]
    simp only [be_length]
    exact byteN_be _ hp.flags _
  unfold fieldsP bodyless
  rw [b1, b2, b3, b4, numOf_be _ 2 hp.seq, numOf_be _ 4 hp.time, numOf_be _ 2 hp.id]
theorem seem_hdr (p : Pk) (hp : p.ok) (l : List UInt8) : bodyless (seemP (hdrL p ++ l)) = bodyless p := by
  have g1 : (hdrL p ++ l).take 10 = be p.src 4 ++ (be p.dst 4 ++ be p.port 2) := by
    rw [show hdrL p ++ l = (be p.src 4 ++ (be p.dst 4 ++ be p.port 2)) ++ (restL p ++ l) by simp [hdrL, headL]]
    exact List.take_left' (by simp [be_length])
  have g2 : ((hdrL p ++ l).take 19).drop 10 = be p.seq 2 ++ (be p.time 4 ++ (be p.id 2 ++ be p.flags 1)) := by
    have := slice_mid (be p.src 4 ++ (be p.dst 4 ++ be p.port 2)) (be p.seq 2 ++ (be p.time 4 ++ (be p.id 2 ++ be p.flags 1))) l 10 19 (by simp [be_length]) (by simp [be_length])
    simpa [hdrL, headL, restL] using this
  unfold seemP
  rw [g1, g2]
  unfold withP bodyless
  have a1 : ((be p.src 4 ++ (be p.dst 4 ++ be p.port 2)).take 4) = be p.src 4 := List.take_left' (by simp [be_length])
  have a2 : ((be p.src 4 ++ (be p.dst 4 ++ be p.port 2)).take 8).drop 4 = be p.dst 4 := slice_mid _ _ _ 4 8 (by simp [be_length]) (by simp [be_length])
  have a3 : ((be p.src 4 ++ (be p.dst 4 ++ be p.port 2)).take 10).drop 8 = be p.port 2 := by
    have := slice_mid (be p.src 4 ++ be p.dst 4) (be p.port 2) [] 8 10 (by simp [be_length]) (by simp [be_length])
    simpa using this
  have b1 : ((be p.seq 2 ++ (be p.time 4 ++ (be p.id 2 ++ be p.flags 1))).take 2) = be p.seq 2 := List.take_left' (by simp [be_length])
  have b2 : ((be p.seq 2 ++ (be p.time 4 ++ (be p.id 2 ++ be p.flags 1))).take 6).drop 2 = be p.time 4 := slice_mid _ _ _ 2 6 (by simp [be_length]) (by simp [be_length])
  have b3 : ((be p.seq 2 ++ (be p.time 4 ++ (be p.id 2 ++ be p.flags 1))).take 8).drop 6 = be p.id 2 := by
    have := slice_mid (be p.seq 2 ++ be p.time 4) (be p.id 2) (be p.flags 1) 6 8 (by simp [be_length]) (by simp [be_length])
    simpa using this
  have b4 : ((be p.seq 2 ++ (be p.time 4 ++ (be p.id 2 ++ be p.flags 1))).take 9).drop 8 = be p.flags 1 := by
    have := slice_mid (be p.seq 2 ++ (be p.time 4 ++ be p.id 2)) (be p.flags 1) [] 8 9 (by simp [be_length]) (by simp [be_length])
    simpa using this
  simp only [a1, a2, a3, b1, b2, b3, b4, numOf_be _ 4 hp.src, numOf_be _ 4 hp.dst, numOf_be _ 2 hp.port, numOf_be _ 2 hp.seq, numOf_be _ 4 hp.time, numOf_be _ 2 hp.id, numOf_be _ 1 hp.flags]

/-- behind the header: the stride, the check, the body -/
theorem end_parts (f : Fr) (q : Pk) (s c : Nat) (body : List UInt8) (hs : s < 65536) (hc : c < 256) :
    endO f q (be s 2 ++ (be c 1 ++ body)) = some { f with told := stateN q s, chk := c, body := body } := by
  have h1 : (be s 2 ++ (be c 1 ++ body)).take 2 = be s 2 := List.take_left' (by simp [be_length])
  have h2 : byteN (be s 2 ++ (be c 1 ++ body)) 2 = c := by
    rw [byteN_right _ _ _ (by simp [be_length])]
    simp only [be_length]
    exact byteN_be _ hc _
  have h3 : (be s 2 ++ (be c 1 ++ body)).drop 3 = body := by
    rw [← List.append_assoc]
    exact List.drop_left' (by simp [be_length])
  unfold endO endF
  rw [if_neg (by simp [be_length]; omega), h1, h2, h3, numOf_be _ 2 hs]

theorem first_byte {k t c : Nat} (hk : k ≤ 3) (ht : t < 4) (hc : c < 8) : (64 * k + 16 * t + 2 * c) / 64 = k ∧ (64 * k + 16 * t + 2 * c) / 2 % 8 = c ∧ (64 * k + 16 * t + 2 * c) / 16 % 4 = t ∧ (64 * k + 16 * t + 2 * c) % 2 = 0 ∧ 64 * k + 16 * t + 2 * c < 256 := by omega

theorem inner_told {k t c : Nat} {n : St} {p : Pk} {s : Nat} (hk : k ≤ 3) (hp : p.ok) (hs : s < 65536) (hn : n = stateN p s) :
    innerO ⟨k, c, t, 0, 0, 0, St.zero, 0, []⟩ (toldN k n p ++ p.body) = some (partsF k t c n p) := by
  have c3 := chk_lt3 p
  have c7 := chk_lt7 p
  have c8 := chk_lt8 p
  have hns : n.stride = s := by rw [hn]; rfl
  obtain rfl | rfl | rfl | rfl : k = 0 ∨ k = 1 ∨ k = 2 ∨ k = 3 := by omega
  · have hB : 16 * (n.seq % 16) + 2 * chk 3 p < 256 := by omega
    have e0 := byteN_be _ hB p.body
    have ed : (be (16 * (n.seq % 16) + 2 * chk 3 p) 1 ++ p.body).drop 1 = p.body := List.drop_left' (by simp [be_length])
    simp only [innerO, toldN, tinyO, reduceIte, Nat.reduceEqDiff, e0, ed]
    rw [if_neg (by simp [be_length]; omega)]
    simp only [partsF, lowSt, widthN, reduceIte, Nat.reduceEqDiff, St.zero]
    rw [show (16 * (n.seq % 16) + 2 * chk 3 p) / 16 = n.seq % 16 by omega, show (16 * (n.seq % 16) + 2 * chk 3 p) / 2 % 8 = chk 3 p by omega]
  · have e : be (n.seq % 256) 1 ++ be (n.offset % 256) 1 ++ be (n.lag % 256) 1 ++ be (chk 7 p) 1 ++ p.body = UInt8.ofNat (n.seq % 256) :: UInt8.ofNat (n.offset % 256) :: UInt8.ofNat (n.lag % 256) :: UInt8.ofNat (chk 7 p) :: p.body := by
      rw [wbe1 _ (by omega), wbe1 _ (by omega), wbe1 _ (by omega), wbe1 _ (by omega)]; simp
    simp only [innerO, toldN, shortO, reduceIte, Nat.reduceEqDiff, e, byteN_cons, byteN_succ, List.drop_succ_cons, List.drop_zero, List.length_cons]
    rw [ofNat_toNat (show n.seq % 256 < 256 by omega), ofNat_toNat (show n.offset % 256 < 256 by omega), ofNat_toNat (show n.lag % 256 < 256 by omega), ofNat_toNat (show chk 7 p < 256 by omega)]
    rw [if_neg (by omega)]
    simp only [partsF, lowSt, widthN, reduceIte, Nat.reduceEqDiff, St.zero]
  · have e : restL p ++ be n.stride 2 ++ be (chk 8 p) 1 ++ p.body = restL p ++ (be n.stride 2 ++ (be (chk 8 p) 1 ++ p.body)) := by simp
    have ed : (restL p ++ (be n.stride 2 ++ (be (chk 8 p) 1 ++ p.body))).drop 9 = be n.stride 2 ++ (be (chk 8 p) 1 ++ p.body) := List.drop_left' (restL_length p)
    simp only [innerO, toldN, fullO, reduceIte, Nat.reduceEqDiff, e, ed]
    rw [if_neg (by simp only [List.length_append, restL_length, be_length]; omega), fields_rest p hp, end_parts _ _ _ _ _ (by omega) (by omega)]
    simp only [partsF, lowSt, widthN, reduceIte, Nat.reduceEqDiff]
    rw [hns, hn]
    rfl
  · have e : hdrL p ++ be n.stride 2 ++ be (chk 8 p) 1 ++ p.body = hdrL p ++ (be n.stride 2 ++ (be (chk 8 p) 1 ++ p.body)) := by simp
    have ed : (hdrL p ++ (be n.stride 2 ++ (be (chk 8 p) 1 ++ p.body))).drop 19 = be n.stride 2 ++ (be (chk 8 p) 1 ++ p.body) := List.drop_left' (hdrL_length p)
    have es := seem_hdr p hp (be n.stride 2 ++ (be (chk 8 p) 1 ++ p.body))
    have e1 : (seemP (hdrL p ++ (be n.stride 2 ++ (be (chk 8 p) 1 ++ p.body)))).src = p.src := by
      have := congrArg Pk.src es
      simpa only [bodyless] using this
    have e2 : (seemP (hdrL p ++ (be n.stride 2 ++ (be (chk 8 p) 1 ++ p.body)))).dst = p.dst := by
      have := congrArg Pk.dst es
      simpa only [bodyless] using this
    have e3 : (seemP (hdrL p ++ (be n.stride 2 ++ (be (chk 8 p) 1 ++ p.body)))).port = p.port := by
      have := congrArg Pk.port es
      simpa only [bodyless] using this
    simp only [innerO, toldN, wholeO, reduceIte, Nat.reduceEqDiff, e, ed, es, e1, e2, e3]
    rw [if_neg (by simp only [List.length_append, hdrL_length, be_length]; omega), end_parts _ _ _ _ _ (by omega) (by omega)]
    simp only [partsF, lowSt, widthN, reduceIte, Nat.reduceEqDiff]
    rw [hns, hn]
    rfl

theorem read_frame {k t c : Nat} {n : St} {p : Pk} {s : Nat} (hk : k ≤ 3) (ht : t < 4) (hc : c < 8) (hp : p.ok) (hs : s < 65536) (hn : n = stateN p s) (hb : p.body.length ≤ 100) :
    readF (frameN k t c n p) = some (partsF k t c n p) := by
  obtain ⟨f1, f2, f3, f4, f5⟩ := first_byte hk ht hc
  have e : frameN k t c n p = be (64 * k + 16 * t + 2 * c) 1 ++ (toldN k n p ++ p.body) := by simp [frameN]
  have e0 : byteN (frameN k t c n p) 0 = 64 * k + 16 * t + 2 * c := by rw [e]; exact byteN_be _ f5 _
  have ed : (frameN k t c n p).drop 1 = toldN k n p ++ p.body := by rw [e]; exact List.drop_left' (by simp [be_length])
  have el : (frameN k t c n p).length ≠ 0 := by rw [e]; simp only [List.length_append, be_length]; omega
  unfold readF
  rw [if_neg (by rw [e0]; omega), e0, ed]
  simp only [bareF, f1, f2, f3]
  rw [inner_told hk hp hs hn]
  simp only [cutO]
  rw [if_neg (by simp only [partsF]; omega)]

theorem made_back {n : St} {p : Pk} {s : Nat} (hp : p.ok) (hs : s < 65536) (hn : n = stateN p s) : packetN n p.src p.dst p.port p.body = p := by
  have h1 := timeN_stateN hp hs
  have h2 := hp.seq
  have h3 := hp.id
  rw [hn]
  unfold packetN
  rw [h1]
  simp only [stateN]
  have e : ((p.id + 65536 - p.seq) % 65536 + p.seq) % 65536 = p.id := by omega
  rw [e]

/-- a context that a frame of a kind can be told by -/
def Knows (c : Rx) (k turn : Nat) (n : St) (p : Pk) : Prop :=
  k = 3 ∨ (c.begun = true ∧ c.turn = turn ∧ c.src = p.src ∧ c.dst = p.dst ∧ c.port = p.port ∧ needsN n c.st ≤ k)
def Rx.of (p : Pk) (turn : Nat) (n : St) : Rx := ⟨true, p.src, p.dst, p.port, turn, n, 0⟩

theorem needs_tiny {n r : St} (h : needsN n r ≤ 0) : n.stride = r.stride ∧ n.flags = r.flags ∧ n.offset = r.offset ∧ n.lag = r.lag ∧ bits.fitR 16 n.seq r.seq 4 1 = true := by
  unfold needsN at h
  split at h
  · rename_i h1
    split at h
    · rename_i h2
      exact ⟨h1.1, h1.2, h2⟩
    · split at h <;> omega
  · omega
theorem needs_short {n r : St} (hn : n.ok) (h : needsN n r ≤ 1) : n.stride = r.stride ∧ n.flags = r.flags ∧ bits.fitR 16 n.seq r.seq 8 1 = true ∧ bits.fitR 16 n.offset r.offset 8 128 = true ∧ bits.fitR 32 n.lag r.lag 8 128 = true := by
  unfold needsN at h
  split at h
  · rename_i h1
    split at h
    · rename_i h2
      obtain ⟨e1, e2, e3⟩ := h2
      have hc4 : bits.cnt 4 16 = 16 := by decide
      have hc8 : bits.cnt 8 16 = 256 := by decide
      have hc8' : bits.cnt 8 32 = 256 := by decide
      have ho := hn.offset
      have hl := hn.lag
      refine ⟨h1.1, h1.2, ?_, ?_, ?_⟩
      · unfold bits.fitR at e3 ⊢
        rw [hc4] at e3
        rw [hc8]
        have e3 := of_decide_eq_true e3
        exact decide_eq_true ⟨by omega, by omega⟩
      · rw [← e1]
        unfold bits.fitR
        rw [hc8]
        refine decide_eq_true ⟨by omega, ?_⟩
        rw [show ((n.offset : Int) - ((n.offset : Int) - 128)) = 128 by omega]
        decide
      · rw [← e2]
        unfold bits.fitR
        rw [hc8']
        refine decide_eq_true ⟨by omega, ?_⟩
        rw [show ((n.lag : Int) - ((n.lag : Int) - 128)) = 128 by omega]
        decide
    · split at h
      · rename_i h2
        exact ⟨h1.1, h1.2, h2⟩
      · omega
  · omega

theorem follow_good {c : Rx} {k t cid : Nat} {n : St} {p : Pk} {s : Nat} (hk : k ≤ 3) (hp : p.ok) (hs : s < 65536) (hn : n = stateN p s) (h : Knows c k t n p) : followN c (partsF k t cid n p) = Rx.of p t n := by
  have no : n.ok := by rw [hn]; exact stateN_ok hp hs
  rcases h with rfl | ⟨h1, h2, h3, h4, h5, h6⟩
  · simp [followN, partsF, Rx.of, lowSt]
  · obtain rfl | rfl | rfl | rfl : k = 0 ∨ k = 1 ∨ k = 2 ∨ k = 3 := by omega
    · obtain ⟨a1, a2, a3, a4, a5⟩ := needs_tiny h6
      have e := told16 (k := 4) (p := 1) (by decide) (by decide) no.seq a5
      simp only [followN, partsF, Rx.of, lowSt, reduceIte, Nat.reduceEqDiff, afterTinyN, seqAfterN, h3, h4, h5, ← a1, ← a2, ← a3, ← a4]
      have e' : (bits.lowR 16 ((4 : Nat) : Int) (c.st.seq : Int) 1 ((n.seq % 16 : Nat) : Int)).toNat = n.seq := e
      rw [e']
    · obtain ⟨a1, a2, a3, a4, a5⟩ := needs_short no h6
      have e3 := told16 (k := 8) (p := 1) (by decide) (by decide) no.seq a3
      have e4 := told16 (k := 8) (p := 128) (by decide) (by decide) no.offset a4
      have e5 := told32 (k := 8) (p := 128) (by decide) (by decide) no.lag a5
      have e3' : (bits.lowR 16 ((8 : Nat) : Int) (c.st.seq : Int) 1 ((n.seq % 256 : Nat) : Int)).toNat = n.seq := e3
      have e4' : (bits.lowR 16 8 (c.st.offset : Int) 128 ((n.offset % 256 : Nat) : Int)).toNat = n.offset := e4
      have e5' : (bits.lowR 32 8 (c.st.lag : Int) 128 ((n.lag % 256 : Nat) : Int)).toNat = n.lag := e5
      simp only [followN, partsF, Rx.of, lowSt, reduceIte, Nat.reduceEqDiff, afterShortN, seqAfterN, h3, h4, h5, ← a1, ← a2]
      rw [e3', e4', e5']
    · simp [followN, partsF, Rx.of, lowSt, h3, h4, h5]
    · simp [followN, partsF, Rx.of, lowSt]

/-- a frame that a context can be told by gives its packet, and its state is the context's -/
theorem take_good {m : Rcv} {k t cid : Nat} {n : St} {p : Pk} {s : Nat} (hk : k ≤ 3) (ht : t < 4) (hcm : cid < m.cids) (hc8 : cid < 8) (hp : p.ok) (hs : s < 65536) (hn : n = stateN p s) (hb : p.body.length ≤ 100) (h : Knows (m.at_ cid) k t n p) :
    takeE m (frameN k t cid n p) = 0 ∧ takeP m (frameN k t cid n p) = p ∧ takeB m (frameN k t cid n p) = [] ∧ takeM m (frameN k t cid n p) = m.set cid (Rx.of p t n) := by
  have hr := read_frame hk ht hc8 hp hs hn hb
  have hf := follow_good (cid := cid) hk hp hs hn h
  have hmk : madeN (m.at_ cid) (partsF k t cid n p) = p := by
    unfold madeN
    rw [hf]
    exact made_back hp hs hn
  have hE : takeE m (frameN k t cid n p) = 0 := by
    unfold takeE
    rw [hr]
    simp only
    have ec : (partsF k t cid n p).cid = cid := rfl
    rw [ec, if_neg (by omega), hmk]
    unfold refusalN
    rcases h with rfl | ⟨h1, h2, _⟩
    · simp [partsF]
    · simp [partsF, h1, h2]
  refine ⟨hE, ?_, ?_, ?_⟩
  · unfold takeP
    rw [hr]
    simp only
    rw [if_pos hE]
    exact hmk
  · unfold takeB
    rw [hr]
    simp only
    rw [if_pos (Or.inl hE)]
  · unfold takeM
    rw [hr]
    simp only
    rw [if_neg (by omega), if_pos hE]
    rw [show (partsF k t cid n p).cid = cid from rfl, hf]

/-- any frame of a packet, at any context: it is refused, or what it gives has the packet's body and a header with its check -/
theorem take_some {m : Rcv} {k t cid : Nat} {n : St} {p : Pk} {s : Nat} (hk : k ≤ 3) (ht : t < 4) (hcm : cid < m.cids) (hc8 : cid < 8) (hp : p.ok) (hs : s < 65536) (hn : n = stateN p s) (hb : p.body.length ≤ 100) :
    (takeE m (frameN k t cid n p) = 0 ∧ (takeP m (frameN k t cid n p)).body = p.body ∧ chk (widthN k) (takeP m (frameN k t cid n p)) = chk (widthN k) p) ∨
    ((takeE m (frameN k t cid n p) = 8 ∨ takeE m (frameN k t cid n p) = 9 ∨ takeE m (frameN k t cid n p) = 10) ∧ takeP m (frameN k t cid n p) = zeroP ∧ k ≠ 3) := by
  have hr := read_frame hk ht hc8 hp hs hn hb
  by_cases hk3 : k = 3
  · obtain ⟨e1, e2, _, _⟩ := take_good (m := m) hk ht hcm hc8 hp hs hn hb (Or.inl hk3)
    exact Or.inl ⟨e1, by rw [e2], by rw [e2]⟩
  · have hE : takeE m (frameN k t cid n p) = refusalN (m.at_ cid) (partsF k t cid n p) (madeN (m.at_ cid) (partsF k t cid n p)) := by
      unfold takeE
      rw [hr]
      simp only
      have ec : (partsF k t cid n p).cid = cid := rfl
      rw [ec, if_neg (by omega)]
    by_cases h0 : takeE m (frameN k t cid n p) = 0
    · left
      have hP : takeP m (frameN k t cid n p) = madeN (m.at_ cid) (partsF k t cid n p) := by
        unfold takeP
        rw [hr]
        simp only
        rw [if_pos h0]
        rfl
      refine ⟨h0, ?_, ?_⟩
      · rw [hP]; rfl
      · rw [hE] at h0
        unfold refusalN at h0
        split at h0
        · omega
        · split at h0
          · omega
          · split at h0
            · rename_i e
              rw [hP]
              exact e.symm
            · omega
    · right
      refine ⟨?_, ?_, hk3⟩
      · rw [hE] at h0 ⊢
        unfold refusalN at h0 ⊢
        split at h0
        · rename_i e; rw [if_pos e]; exact Or.inl rfl
        · rename_i e; rw [if_neg e]
          split at h0
          · rename_i e2; rw [if_pos e2]; exact Or.inr (Or.inl rfl)
          · rename_i e2; rw [if_neg e2]
            split at h0
            · omega
            · rename_i e3; rw [if_neg e3]; exact Or.inr (Or.inr rfl)
      · unfold takeP
        rw [hr]
        simp only
        rw [if_neg h0]

end Go.Proofs.YtgpojbgjfibblabGreat.texts

namespace Go.Proofs.YtgpojbgjfibblabGreat.texts
open Go.RowKit
set_option linter.unusedVariables false

def aheadN (k : Nat) : Nat := if k = 0 then 2 else if k = 1 then 5 else if k = 2 then 13 else 23
theorem byteN_drop (l : List UInt8) (n i : Nat) : byteN (l.drop n) i = byteN l (n + i) := by simp [byteN, List.getElem?_drop]
theorem byteN_13 (l : List UInt8) : byteN (l.drop 1) 3 = byteN l 4 := byteN_drop l 1 3
theorem byteN_10 (l : List UInt8) : byteN (l.drop 1) 0 = byteN l 1 := byteN_drop l 1 0
/-- a text of the form of a frame, taken apart -/
def shapeF (l : List UInt8) : Fr :=
  if byteN l 0 / 64 = 3 then endF { bareF (byteN l 0) with src := (seemP (l.drop 1)).src, dst := (seemP (l.drop 1)).dst, port := (seemP (l.drop 1)).port } (bodyless (seemP (l.drop 1))) ((l.drop 1).drop 19)
  else if byteN l 0 / 64 = 2 then endF (bareF (byteN l 0)) (fieldsP (l.drop 1) (byteN (l.drop 1) 8)) ((l.drop 1).drop 9)
  else if byteN l 0 / 64 = 1 then { bareF (byteN l 0) with told := ⟨byteN (l.drop 1) 0, 0, byteN (l.drop 1) 1, byteN (l.drop 1) 2, 0⟩, chk := byteN (l.drop 1) 3, body := (l.drop 1).drop 4 }
  else { bareF (byteN l 0) with told := ⟨byteN (l.drop 1) 0 / 16, 0, 0, 0, 0⟩, chk := byteN (l.drop 1) 0 / 2 % 8, body := (l.drop 1).drop 1 }
structure Shape (l : List UInt8) : Prop where
  some_ : l.length ≠ 0
  even : byteN l 0 % 2 = 0
  least : aheadN (byteN l 0 / 64) ≤ l.length
  most : l.length ≤ aheadN (byteN l 0 / 64) + 100
  tiny : byteN l 0 / 64 = 0 → byteN l 1 % 2 = 0
  short : byteN l 0 / 64 = 1 → byteN l 4 < 128
theorem shapeF_parts (l : List UInt8) : (shapeF l).kind = byteN l 0 / 64 ∧ (shapeF l).cid = byteN l 0 / 2 % 8 ∧ (shapeF l).turn = byteN l 0 / 16 % 4 ∧ (shapeF l).body = l.drop (aheadN (byteN l 0 / 64)) := by
  have hb := byteN_lt l 0
  unfold shapeF aheadN
  by_cases h3 : byteN l 0 / 64 = 3
  · rw [if_pos h3, if_neg (by omega), if_neg (by omega), if_neg (by omega)]
    exact ⟨rfl, rfl, rfl, by simp [endF, List.drop_drop]⟩
  · rw [if_neg h3]
    by_cases h2 : byteN l 0 / 64 = 2
    · rw [if_pos h2, if_neg (by omega), if_neg (by omega), if_pos h2]
      exact ⟨rfl, rfl, rfl, by simp [endF, List.drop_drop]⟩
    · rw [if_neg h2]
      by_cases h1 : byteN l 0 / 64 = 1
      · rw [if_pos h1, if_neg (by omega), if_pos h1]
        exact ⟨rfl, rfl, rfl, by simp⟩
      · rw [if_neg h1, if_pos (by omega)]
        exact ⟨rfl, rfl, rfl, by simp⟩
theorem readF_shape {l : List UInt8} (h : Shape l) : readF l = some (shapeF l) := by
  have hb := byteN_lt l 0
  obtain ⟨p1, p2, p3, p4⟩ := shapeF_parts l
  have h0 := h.some_
  have he := h.even
  have hl := h.least
  have hm := h.most
  have key : innerO (bareF (byteN l 0)) (l.drop 1) = some (shapeF l) := by
    have kd : (bareF (byteN l 0)).kind = byteN l 0 / 64 := rfl
    have ld : (l.drop 1).length = l.length - 1 := List.length_drop
    unfold innerO shapeF
    rw [kd]
    unfold aheadN at hl
    by_cases h3 : byteN l 0 / 64 = 3
    · rw [if_pos h3, if_pos h3]
      rw [if_neg (by omega), if_neg (by omega), if_neg (by omega)] at hl
      unfold wholeO endO
      rw [if_neg (by omega), if_neg (by rw [List.length_drop]; omega)]
    · rw [if_neg h3, if_neg h3]
      by_cases h2 : byteN l 0 / 64 = 2
      · rw [if_pos h2, if_pos h2]
        rw [if_neg (by omega), if_neg (by omega), if_pos h2] at hl
        unfold fullO endO
        rw [if_neg (by omega), if_neg (by rw [List.length_drop]; omega)]
      · rw [if_neg h2, if_neg h2]
        by_cases h1 : byteN l 0 / 64 = 1
        · rw [if_pos h1, if_pos h1]
          rw [if_neg (by omega), if_pos h1] at hl
          unfold shortO
          have := h.short h1
          rw [if_neg (by rw [byteN_13]; omega)]
          rfl
        · rw [if_neg h1, if_neg h1]
          have h00 : byteN l 0 / 64 = 0 := by omega
          rw [if_pos h00] at hl
          unfold tinyO
          have := h.tiny h00
          rw [if_neg (by rw [byteN_10]; omega)]
          rfl
  unfold readF
  rw [if_neg (by omega), key]
  unfold cutO
  simp only
  rw [if_neg (by rw [p4, List.length_drop]; omega)]
theorem readF_not {l : List UInt8} (h : ¬ Shape l) : readF l = none := by
  have hb := byteN_lt l 0
  unfold readF
  by_cases h0 : l.length = 0 ∨ byteN l 0 % 2 = 1
  · rw [if_pos h0]
  · rw [if_neg h0]
    have kd : (bareF (byteN l 0)).kind = byteN l 0 / 64 := rfl
    have ld : (l.drop 1).length = l.length - 1 := List.length_drop
    unfold innerO
    rw [kd]
    by_cases h3 : byteN l 0 / 64 = 3
    · rw [if_pos h3]
      unfold wholeO endO
      by_cases a : (l.drop 1).length < 19
      · rw [if_pos a]; rfl
      · rw [if_neg a]
        by_cases b : ((l.drop 1).drop 19).length < 3
        · rw [if_pos b]; rfl
        · rw [if_neg b]
          unfold cutO
          simp only
          rw [List.length_drop] at b
          rw [if_pos]
          by_cases c : 100 < (endF { bareF (byteN l 0) with src := (seemP (l.drop 1)).src, dst := (seemP (l.drop 1)).dst, port := (seemP (l.drop 1)).port } (bodyless (seemP (l.drop 1))) ((l.drop 1).drop 19)).body.length
          · exact c
          · exfalso
            simp only [endF, List.length_drop] at c
            exact h ⟨by omega, by omega, by unfold aheadN; rw [if_neg (by omega), if_neg (by omega), if_neg (by omega)]; omega, by unfold aheadN; rw [if_neg (by omega), if_neg (by omega), if_neg (by omega)]; omega, fun e => by omega, fun e => by omega⟩
    · rw [if_neg h3]
      by_cases h2 : byteN l 0 / 64 = 2
      · rw [if_pos h2]
        unfold fullO endO
        by_cases a : (l.drop 1).length < 9
        · rw [if_pos a]; rfl
        · rw [if_neg a]
          by_cases b : ((l.drop 1).drop 9).length < 3
          · rw [if_pos b]; rfl
          · rw [if_neg b]
            unfold cutO
            simp only
            rw [List.length_drop] at b
            rw [if_pos]
            by_cases c : 100 < (endF (bareF (byteN l 0)) (fieldsP (l.drop 1) (byteN (l.drop 1) 8)) ((l.drop 1).drop 9)).body.length
            · exact c
            · exfalso
              simp only [endF, List.length_drop] at c
              exact h ⟨by omega, by omega, by unfold aheadN; rw [if_neg (by omega), if_neg (by omega), if_pos h2]; omega, by unfold aheadN; rw [if_neg (by omega), if_neg (by omega), if_pos h2]; omega, fun e => by omega, fun e => by omega⟩
      · rw [if_neg h2]
        by_cases h1 : byteN l 0 / 64 = 1
        · rw [if_pos h1]
          unfold shortO
          by_cases a : (l.drop 1).length < 4 ∨ 128 ≤ byteN (l.drop 1) 3
          · rw [if_pos a]; rfl
          · rw [if_neg a]
            unfold cutO
            simp only
            rw [byteN_13] at a
            rw [if_pos]
            by_cases c : 100 < ((l.drop 1).drop 4).length
            · exact c
            · exfalso
              simp only [List.length_drop] at c
              exact h ⟨by omega, by omega, by unfold aheadN; rw [if_neg (by omega), if_pos h1]; omega, by unfold aheadN; rw [if_neg (by omega), if_pos h1]; omega, fun e => by omega, fun e => by omega⟩
        · rw [if_neg h1]
          have h00 : byteN l 0 / 64 = 0 := by omega
          unfold tinyO
          by_cases a : (l.drop 1).length = 0 ∨ byteN (l.drop 1) 0 % 2 = 1
          · rw [if_pos a]; rfl
          · rw [if_neg a]
            unfold cutO
            simp only
            rw [byteN_10] at a
            rw [if_pos]
            by_cases c : 100 < ((l.drop 1).drop 1).length
            · exact c
            · exfalso
              simp only [List.length_drop] at c
              exact h ⟨by omega, by omega, by unfold aheadN; rw [if_pos h00]; omega, by unfold aheadN; rw [if_pos h00]; omega, fun e => by omega, fun e => by omega⟩

theorem with_body (a b c : Nat) (l x y : List UInt8) (s : Nat) : stateN (withP a b c l x) s = stateN (withP 0 0 0 l y) s := rfl
theorem withP_ok {a b c : Nat} {l body : List UInt8} (ha : a < 4294967296) (hb : b < 4294967296) (hc : c < 65536) : (withP a b c l body).ok :=
  ⟨ha, hb, hc, numOf_lt' 2 (by simp; omega), numOf_lt' 4 (by simp; omega), numOf_lt' 2 (by simp; omega), numOf_lt' 1 (by simp; omega)⟩
/-- what a WHOLE frame tells -/
theorem made_whole {c : Rx} {l : List UInt8} (h : Shape l) (hk : byteN l 0 / 64 = 3) :
    madeN c (shapeF l) = withP (numOf (((l.take 11).drop 1).take 4)) (numOf ((((l.take 11).drop 1).take 8).drop 4)) (numOf ((((l.take 11).drop 1).take 10).drop 8)) ((l.drop 11).take 9) (l.drop 23)
    ∧ (followN c (shapeF l)).st = stateN (madeN c (shapeF l)) (numOf (((l.drop 11).take 11).drop 9)) ∧ (shapeF l).chk = byteN l 22 := by
  have e : shapeF l = endF { bareF (byteN l 0) with src := (seemP (l.drop 1)).src, dst := (seemP (l.drop 1)).dst, port := (seemP (l.drop 1)).port } (bodyless (seemP (l.drop 1))) ((l.drop 1).drop 19) := by unfold shapeF; rw [if_pos hk]
  have kd : (shapeF l).kind = 3 := (shapeF_parts l).1.trans hk
  have t1 : (l.take 11).drop 1 = (l.drop 1).take 10 := by rw [List.drop_take]
  have t2 : ((l.drop 1).take 19).drop 10 = (l.drop 11).take 9 := by rw [List.drop_take, List.drop_drop]
  have t3 : ((l.drop 11).take 11).drop 9 = ((l.drop 1).drop 19).take 2 := by rw [List.drop_take, List.drop_drop, List.drop_drop]
  have fst : (followN c (shapeF l)).st = (shapeF l).told := by unfold followN; simp only [kd]; rfl
  have q : withP (numOf (((l.take 11).drop 1).take 4)) (numOf ((((l.take 11).drop 1).take 8).drop 4)) (numOf ((((l.take 11).drop 1).take 10).drop 8)) ((l.drop 11).take 9) (l.drop 23) = { seemP (l.drop 1) with body := l.drop 23 } := by
    unfold seemP
    rw [t1, t2]
    rfl
  have ok : ({ seemP (l.drop 1) with body := l.drop 23 } : Pk).ok := by
    have o := seem_ok (l.drop 1)
    exact ⟨o.src, o.dst, o.port, o.seq, o.time, o.id, o.flags⟩
  have hs : numOf (((l.drop 1).drop 19).take 2) < 65536 := numOf_lt' 2 (by simp; omega)
  have tl : (shapeF l).told = stateN { seemP (l.drop 1) with body := l.drop 23 } (numOf (((l.drop 1).drop 19).take 2)) := by rw [e]; rfl
  have mb := made_back (n := (shapeF l).told) ok hs tl
  have m : madeN c (shapeF l) = { seemP (l.drop 1) with body := l.drop 23 } := by
    unfold madeN
    rw [fst]
    have a1 : (followN c (shapeF l)).src = (seemP (l.drop 1)).src := by unfold followN; simp only [kd, if_true]; rw [e]; rfl
    have a2 : (followN c (shapeF l)).dst = (seemP (l.drop 1)).dst := by unfold followN; simp only [kd, if_true]; rw [e]; rfl
    have a3 : (followN c (shapeF l)).port = (seemP (l.drop 1)).port := by unfold followN; simp only [kd, if_true]; rw [e]; rfl
    have a4 : (shapeF l).body = l.drop 23 := by rw [(shapeF_parts l).2.2.2, hk]; rfl
    rw [a1, a2, a3, a4]
    exact mb
  refine ⟨by rw [m, q], by rw [fst, m, t3]; exact tl, ?_⟩
  rw [e]
  show byteN ((l.drop 1).drop 19) 2 = _
  rw [byteN_drop, byteN_drop]
/-- what a FULL frame tells -/
theorem made_full {c : Rx} (hc : c.ok) {l : List UInt8} (h : Shape l) (hk : byteN l 0 / 64 = 2) :
    madeN c (shapeF l) = withP c.src c.dst c.port ((l.drop 1).take 9) (l.drop 13) ∧ (followN c (shapeF l)).st = stateN (madeN c (shapeF l)) (numOf (((l.drop 1).take 11).drop 9)) ∧ (shapeF l).chk = byteN l 12 := by
  have e : shapeF l = endF (bareF (byteN l 0)) (fieldsP (l.drop 1) (byteN (l.drop 1) 8)) ((l.drop 1).drop 9) := by unfold shapeF; rw [if_neg (by omega), if_pos hk]
  have kd : (shapeF l).kind = 2 := (shapeF_parts l).1.trans hk
  have hl := h.least
  unfold aheadN at hl
  rw [if_neg (by omega), if_neg (by omega), if_pos hk] at hl
  have t3 : ((l.drop 1).take 11).drop 9 = ((l.drop 1).drop 9).take 2 := by rw [List.drop_take]
  have fst : (followN c (shapeF l)).st = (shapeF l).told := by unfold followN; simp only [kd]; rfl
  have fb : byteN (l.drop 1) 8 = numOf ((((l.drop 1).take 9).take 9).drop 8) := by
    have hlen : 9 ≤ (l.drop 1).length := by rw [List.length_drop]; omega
    generalize l.drop 1 = t at hlen
    have : ((t.take 9).take 9).drop 8 = [t[8]'(by omega)] := by
      rw [List.take_take, Nat.min_self, List.drop_take, List.drop_eq_getElem_cons (show 8 < t.length by omega)]
      rfl
    rw [this]
    simp [numOf, byteN, List.getElem?_eq_getElem (show 8 < t.length by omega)]
  have q : ({ fieldsP (l.drop 1) (byteN (l.drop 1) 8) with src := c.src, dst := c.dst, port := c.port, body := l.drop 13 } : Pk) = withP c.src c.dst c.port ((l.drop 1).take 9) (l.drop 13) := by
    unfold fieldsP withP
    rw [fb]
    simp only [List.take_take]
    rfl
  have ok : (withP c.src c.dst c.port ((l.drop 1).take 9) (l.drop 13)).ok := withP_ok hc.src hc.dst hc.port
  have hs : numOf (((l.drop 1).drop 9).take 2) < 65536 := numOf_lt' 2 (by simp; omega)
  have tl : (shapeF l).told = stateN (withP c.src c.dst c.port ((l.drop 1).take 9) (l.drop 13)) (numOf (((l.drop 1).drop 9).take 2)) := by rw [← q, e]; rfl
  have mb := made_back (n := (shapeF l).told) ok hs tl
  have m : madeN c (shapeF l) = withP c.src c.dst c.port ((l.drop 1).take 9) (l.drop 13) := by
    unfold madeN
    rw [fst]
    have a1 : (followN c (shapeF l)).src = c.src := by unfold followN; simp only [kd]; rfl
    have a2 : (followN c (shapeF l)).dst = c.dst := by unfold followN; simp only [kd]; rfl
    have a3 : (followN c (shapeF l)).port = c.port := by unfold followN; simp only [kd]; rfl
    have a4 : (shapeF l).body = l.drop 13 := by rw [(shapeF_parts l).2.2.2, hk]; rfl
    rw [a1, a2, a3, a4]
    exact mb
  refine ⟨m, by rw [fst, m, t3]; exact tl, ?_⟩
  rw [e]
  show byteN ((l.drop 1).drop 9) 2 = _
  rw [byteN_drop, byteN_drop]
/-- what a SHORT and a TINY frame tell -/
theorem made_short {c : Rx} {l : List UInt8} (h : Shape l) (hk : byteN l 0 / 64 = 1) :
    (followN c (shapeF l)).st = ⟨seqAfterN c.st.seq 8 (byteN l 1), c.st.stride, (bits.lowR 16 8 c.st.offset 128 (byteN l 2)).toNat, (bits.lowR 32 8 c.st.lag 128 (byteN l 3)).toNat, c.st.flags⟩
    ∧ madeN c (shapeF l) = packetN (followN c (shapeF l)).st c.src c.dst c.port (l.drop 5) ∧ (shapeF l).chk = byteN l 4 := by
  have e : shapeF l = { bareF (byteN l 0) with told := ⟨byteN (l.drop 1) 0, 0, byteN (l.drop 1) 1, byteN (l.drop 1) 2, 0⟩, chk := byteN (l.drop 1) 3, body := (l.drop 1).drop 4 } := by unfold shapeF; rw [if_neg (by omega), if_neg (by omega), if_pos hk]
  have kd : (shapeF l).kind = 1 := (shapeF_parts l).1.trans hk
  refine ⟨?_, ?_, ?_⟩
  · have fst : (followN c (shapeF l)).st = afterShortN c.st (shapeF l).told := by unfold followN; simp only [kd]; rfl
    rw [fst, e]
    unfold afterShortN
    simp only [byteN_drop]
  · unfold madeN
    have a1 : (followN c (shapeF l)).src = c.src := by unfold followN; simp only [kd]; rfl
    have a2 : (followN c (shapeF l)).dst = c.dst := by unfold followN; simp only [kd]; rfl
    have a3 : (followN c (shapeF l)).port = c.port := by unfold followN; simp only [kd]; rfl
    have a4 : (shapeF l).body = l.drop 5 := by rw [(shapeF_parts l).2.2.2, hk]; rfl
    rw [a1, a2, a3, a4]
  · rw [e]
    exact byteN_drop l 1 3
theorem made_tiny {c : Rx} {l : List UInt8} (h : Shape l) (hk : byteN l 0 / 64 = 0) :
    (followN c (shapeF l)).st = ⟨seqAfterN c.st.seq 4 (byteN l 1 / 16), c.st.stride, c.st.offset, c.st.lag, c.st.flags⟩
    ∧ madeN c (shapeF l) = packetN (followN c (shapeF l)).st c.src c.dst c.port (l.drop 2) ∧ (shapeF l).chk = byteN l 1 / 2 % 8 := by
  have e : shapeF l = { bareF (byteN l 0) with told := ⟨byteN (l.drop 1) 0 / 16, 0, 0, 0, 0⟩, chk := byteN (l.drop 1) 0 / 2 % 8, body := (l.drop 1).drop 1 } := by unfold shapeF; rw [if_neg (by omega), if_neg (by omega), if_neg (by omega)]
  have kd : (shapeF l).kind = 0 := (shapeF_parts l).1.trans hk
  refine ⟨?_, ?_, ?_⟩
  · have fst : (followN c (shapeF l)).st = afterTinyN c.st (shapeF l).told := by unfold followN; simp only [kd]; rfl
    rw [fst, e]
    unfold afterTinyN
    simp only [byteN_drop]
  · unfold madeN
    have a1 : (followN c (shapeF l)).src = c.src := by unfold followN; simp only [kd]; rfl
    have a2 : (followN c (shapeF l)).dst = c.dst := by unfold followN; simp only [kd]; rfl
    have a3 : (followN c (shapeF l)).port = c.port := by unfold followN; simp only [kd]; rfl
    have a4 : (shapeF l).body = l.drop 2 := by rw [(shapeF_parts l).2.2.2, hk]; rfl
    rw [a1, a2, a3, a4]
  · rw [e]
    show byteN (l.drop 1) 0 / 2 % 8 = _
    rw [byteN_drop]

end Go.Proofs.YtgpojbgjfibblabGreat.texts
