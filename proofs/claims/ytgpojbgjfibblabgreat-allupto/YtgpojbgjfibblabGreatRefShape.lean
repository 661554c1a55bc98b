/-
  The walks of the document's ahead, shaped and asks (package gistref).
  Conditions stand in each theorem.
-/
import Derived.Test.YtgpojbgjfibblabGreatJoinShapeMath
import Derived.Test.YtgpojbgjfibblabGreatJoinRefKept
import Derived.Test.YtgpojbgjfibblabGreatRcvWalk
import Derived.Test.YtgpojbgjfibblabGreatConfWalk
namespace Go.Proofs.YtgpojbgjfibblabGreat.texts
open Go.RowKit
set_option linter.unusedVariables false
attribute [local go_sem ↓] Go.wp_at_zero Go.wp_at_succ
attribute [local go_sem] bs_size bs_append List.length_append

set_option maxRecDepth 100000 in
set_option maxHeartbeats 1000000 in
theorem ahead_any (k : Nat) (w : World) (h : k ≤ 3) :
    Calls Tryz.prog 92 #[.int .i64 k] w fun e w' => e = .returned (.int .i64 (aheadN k : Nat)) ∧ w' = w := by
  obtain rfl | rfl | rfl | rfl : k = 0 ∨ k = 1 ∨ k = 2 ∨ k = 3 := by omega
  all_goals
    go_enter Tryz.func92, Tryz.ntmps92
    go_wp2
    go_ret
    exact ⟨rfl, rfl⟩

def shapedB (l : List UInt8) (c : Nat) : Bool := decide (l.length ≠ 0 ∧ byteN l 0 % 2 = 0 ∧ byteN l 0 / 2 % 8 < c ∧ aheadN (byteN l 0 / 64) ≤ l.length ∧ l.length ≤ aheadN (byteN l 0 / 64) + 100 ∧ (byteN l 0 / 64 = 0 → byteN l 1 % 2 = 0) ∧ (byteN l 0 / 64 = 1 → byteN l 4 < 128))
theorem shaped_yes {l : List UInt8} {c : Nat} (h : shapedB l c = true) : Shape l ∧ byteN l 0 / 2 % 8 < c := by
  obtain ⟨h1, h2, h3, h4, h5, h6, h7⟩ := of_decide_eq_true h
  exact ⟨⟨h1, h2, h4, h5, h6, h7⟩, h3⟩
theorem shaped_no {l : List UInt8} {c : Nat} (h : shapedB l c = false) (hs : Shape l) : c ≤ byteN l 0 / 2 % 8 := by
  have := of_decide_eq_false h
  by_cases hc : c ≤ byteN l 0 / 2 % 8
  · exact hc
  · exact absurd ⟨hs.some_, hs.even, by omega, hs.least, hs.most, hs.tiny, hs.short⟩ this

set_option maxRecDepth 100000 in
set_option maxHeartbeats 4000000 in
theorem shaped_any (l : List UInt8) (c : Nat) (w : World) (hl : l.length ≤ 9223372036854775807) (hc : c ≤ 8) :
    Calls Tryz.prog 56 #[.string (bs l), .int .i64 c] w fun e w' => e = .returned (.bool (shapedB l c)) ∧ w' = w := by
  by_cases h0 : l.length = 0
  · have e : l = [] := List.length_eq_zero_iff.1 h0
    subst e
    have e2 : shapedB [] c = false := by unfold shapedB; rw [decide_eq_false_iff_not]; simp
    rw [e2]
    have he : ((bs []).toList == ([] : List UInt8)) = true := by rw [bs_toList]; rfl
    go_enter Tryz.func56, Tryz.ntmps56
    go_wp2
    go_ret
    exact ⟨rfl, rfl⟩
  · have s0 : 0 < (bs l).size := by rw [bs_size]; omega
    have b0 := byte_at l 0 (by omega) s0
    have l0 := byteN_lt l 0
    have hne : ((bs l).toList == ([] : List UInt8)) = false := by
      rw [beq_eq_false_iff_ne, bs_toList]
      intro e
      rw [e] at h0
      exact h0 rfl
    obtain ⟨r, hr⟩ : ∃ r, r = shapedB l c := ⟨_, rfl⟩
    have hd : r = decide (l.length ≠ 0 ∧ byteN l 0 % 2 = 0 ∧ byteN l 0 / 2 % 8 < c ∧ aheadN (byteN l 0 / 64) ≤ l.length ∧ l.length ≤ aheadN (byteN l 0 / 64) + 100 ∧ (byteN l 0 / 64 = 0 → byteN l 1 % 2 = 0) ∧ (byteN l 0 / 64 = 1 → byteN l 4 < 128)) := hr
    rw [← hr]
    have HD := hide hd
    obtain ⟨K, hK⟩ : ∃ K, K = byteN l 0 / 64 := ⟨_, rfl⟩
    have hK3 : K ≤ 3 := by omega
    have HK := hide hK
    obtain ⟨B, hB⟩ : ∃ B, B = byteN l 0 := ⟨_, rfl⟩
    rw [← hB] at b0 l0 hK
    have HB := hide hB
    have d1 : (B : Int).tdiv 64 = (K : Int) := by rw [hK, Int.tdiv_eq_ediv_of_nonneg (by omega)]; omega
    have d1' : (B : Int) / 64 = (K : Int) := by rw [hK]; omega
    have a1 := ahead_any K
    have HA := hide (a1 w hK3)
    clear hr hd hK hB a1 h0
    by_cases hlen : l.length < aheadN K
    · have hI : (l.length : Int) < ((aheadN K : Nat) : Int) := by omega
      go_enter Tryz.func56, Tryz.ntmps56
      go_wp2_with (go_at_call 92; refine (unhide HA).mono ?_; rintro e w1 ⟨rfl, h1⟩; have h1 := h1.symm; subst h1)
      all_goals go_ret
      all_goals refine ⟨retB ?_, rfl⟩
      all_goals
        have hKB : B / 64 = K := by rw [unhide HB]; exact (unhide HK).symm
        have hd := unhide HD
        rw [← unhide HB] at hd
        rw [hd]
        symm
        rw [decide_eq_false_iff_not]
        rintro ⟨_, _, _, h4, _⟩
        rw [hKB] at h4
        omega
    · have hKB : B / 64 = K := by rw [unhide HB]; exact (unhide HK).symm
      have hd := unhide HD
      rw [← unhide HB] at hd
      have HKB := hide hKB
      have Hd := hide hd
      clear hd hKB HD
      obtain rfl | rfl | rfl | rfl : K = 0 ∨ K = 1 ∨ K = 2 ∨ K = 3 := by omega
      · have s1 : 1 < (bs l).size := by rw [bs_size]; have : aheadN 0 = 2 := rfl; omega
        have b1 := byte_at l 1 (by rw [bs_size] at s1; exact s1) s1
        have l1 := byteN_lt l 1
        have hn : aheadN 0 = 2 := rfl
        rw [hn] at HA hlen
        have hI : ¬ ((l.length : Int) < 2) := by omega
        obtain ⟨B1, hB1⟩ : ∃ B1, B1 = byteN l 1 := ⟨_, rfl⟩
        rw [← hB1] at b1 l1
        have HB1 := hide hB1
        clear hB1
        go_enter Tryz.func56, Tryz.ntmps56
        go_wp2_with (go_at_call 92; refine (unhide HA).mono ?_; rintro e w1 ⟨rfl, h1⟩; have h1 := h1.symm; subst h1)
        all_goals go_ret
        all_goals refine ⟨retB ?_, rfl⟩
        all_goals
          rw [unhide Hd, unhide HKB, hn, ← unhide HB1]
          have q := unhide HKB
          (try simp only [beq_iff_eq, beq_eq_false_iff_ne, ne_eq] at *)
          first
            | (symm; rw [decide_eq_false_iff_not]; rintro ⟨g1, g2, g3, g4, g5, g6, g7⟩; (try have g6' := g6 rfl); (try have g7' := g7 rfl); (try have g8 := g6 trivial); (try have g9 := g7 trivial); (try simp at g6); (try simp at g7); omega)
            | (symm; rw [decide_eq_true_eq]; exact ⟨by omega, by omega, by omega, by omega, by omega, fun e => by omega, fun e => by omega⟩)
            | (symm; rw [decide_eq_decide]; refine ⟨?_, fun h => ⟨by omega, by omega, by omega, by omega, by omega, fun e => by omega, fun e => by omega⟩⟩; rintro ⟨g1, g2, g3, g4, g5, g6, g7⟩; (try have g6' := g6 rfl); (try have g7' := g7 rfl); (try have g8 := g6 trivial); (try have g9 := g7 trivial); (try simp at g6); (try simp at g7); omega)
            | (rw [Bool.eq_iff_iff]; simp only [decide_eq_true_eq, beq_iff_eq]; refine ⟨fun h => ⟨by omega, by omega, by omega, by omega, by omega, fun e => by omega, fun e => by omega⟩, ?_⟩; rintro ⟨g1, g2, g3, g4, g5, g6, g7⟩; (try have g6' := g6 rfl); (try have g7' := g7 rfl); (try have g8 := g6 trivial); (try have g9 := g7 trivial); (try simp at g6); (try simp at g7); omega)
      · have s1 : 4 < (bs l).size := by rw [bs_size]; have : aheadN 1 = 5 := rfl; omega
        have b1 := byte_at l 4 (by rw [bs_size] at s1; exact s1) s1
        have l1 := byteN_lt l 4
        have hn : aheadN 1 = 5 := rfl
        rw [hn] at HA hlen
        have hI : ¬ ((l.length : Int) < 5) := by omega
        obtain ⟨B1, hB1⟩ : ∃ B1, B1 = byteN l 4 := ⟨_, rfl⟩
        rw [← hB1] at b1 l1
        have HB1 := hide hB1
        clear hB1
        go_enter Tryz.func56, Tryz.ntmps56
        go_wp2_with (go_at_call 92; refine (unhide HA).mono ?_; rintro e w1 ⟨rfl, h1⟩; have h1 := h1.symm; subst h1)
        all_goals go_ret
        all_goals refine ⟨retB ?_, rfl⟩
        all_goals
          rw [unhide Hd, unhide HKB, hn, ← unhide HB1]
          have q := unhide HKB
          (try simp only [beq_iff_eq, beq_eq_false_iff_ne, ne_eq] at *)
          first
            | (symm; rw [decide_eq_false_iff_not]; rintro ⟨g1, g2, g3, g4, g5, g6, g7⟩; (try have g6' := g6 rfl); (try have g7' := g7 rfl); (try have g8 := g6 trivial); (try have g9 := g7 trivial); (try simp at g6); (try simp at g7); omega)
            | (symm; rw [decide_eq_true_eq]; exact ⟨by omega, by omega, by omega, by omega, by omega, fun e => by omega, fun e => by omega⟩)
            | (symm; rw [decide_eq_decide]; refine ⟨?_, fun h => ⟨by omega, by omega, by omega, by omega, by omega, fun e => by omega, fun e => by omega⟩⟩; rintro ⟨g1, g2, g3, g4, g5, g6, g7⟩; (try have g6' := g6 rfl); (try have g7' := g7 rfl); (try have g8 := g6 trivial); (try have g9 := g7 trivial); (try simp at g6); (try simp at g7); omega)
            | (rw [Bool.eq_iff_iff]; simp only [decide_eq_true_eq, beq_iff_eq]; refine ⟨fun h => ⟨by omega, by omega, by omega, by omega, by omega, fun e => by omega, fun e => by omega⟩, ?_⟩; rintro ⟨g1, g2, g3, g4, g5, g6, g7⟩; (try have g6' := g6 rfl); (try have g7' := g7 rfl); (try have g8 := g6 trivial); (try have g9 := g7 trivial); (try simp at g6); (try simp at g7); omega)
      · have hn : aheadN 2 = 13 := rfl
        rw [hn] at HA hlen
        have hI : ¬ ((l.length : Int) < 13) := by omega
        go_enter Tryz.func56, Tryz.ntmps56
        go_wp2_with (go_at_call 92; refine (unhide HA).mono ?_; rintro e w1 ⟨rfl, h1⟩; have h1 := h1.symm; subst h1)
        all_goals go_ret
        all_goals refine ⟨retB ?_, rfl⟩
        all_goals
          rw [unhide Hd, unhide HKB, hn]
          have q := unhide HKB
          (try simp only [beq_iff_eq, beq_eq_false_iff_ne, ne_eq] at *)
          first
            | (symm; rw [decide_eq_false_iff_not]; rintro ⟨g1, g2, g3, g4, g5, g6, g7⟩; (try have g6' := g6 rfl); (try have g7' := g7 rfl); (try have g8 := g6 trivial); (try have g9 := g7 trivial); (try simp at g6); (try simp at g7); omega)
            | (symm; rw [decide_eq_true_eq]; exact ⟨by omega, by omega, by omega, by omega, by omega, fun e => by omega, fun e => by omega⟩)
            | (symm; rw [decide_eq_decide]; refine ⟨?_, fun h => ⟨by omega, by omega, by omega, by omega, by omega, fun e => by omega, fun e => by omega⟩⟩; rintro ⟨g1, g2, g3, g4, g5, g6, g7⟩; (try have g6' := g6 rfl); (try have g7' := g7 rfl); (try have g8 := g6 trivial); (try have g9 := g7 trivial); (try simp at g6); (try simp at g7); omega)
            | (rw [Bool.eq_iff_iff]; simp only [decide_eq_true_eq, beq_iff_eq]; refine ⟨fun h => ⟨by omega, by omega, by omega, by omega, by omega, fun e => by omega, fun e => by omega⟩, ?_⟩; rintro ⟨g1, g2, g3, g4, g5, g6, g7⟩; (try have g6' := g6 rfl); (try have g7' := g7 rfl); (try have g8 := g6 trivial); (try have g9 := g7 trivial); (try simp at g6); (try simp at g7); omega)
      · have hn : aheadN 3 = 23 := rfl
        rw [hn] at HA hlen
        have hI : ¬ ((l.length : Int) < 23) := by omega
        go_enter Tryz.func56, Tryz.ntmps56
        go_wp2_with (go_at_call 92; refine (unhide HA).mono ?_; rintro e w1 ⟨rfl, h1⟩; have h1 := h1.symm; subst h1)
        all_goals go_ret
        all_goals refine ⟨retB ?_, rfl⟩
        all_goals
          rw [unhide Hd, unhide HKB, hn]
          have q := unhide HKB
          (try simp only [beq_iff_eq, beq_eq_false_iff_ne, ne_eq] at *)
          first
            | (symm; rw [decide_eq_false_iff_not]; rintro ⟨g1, g2, g3, g4, g5, g6, g7⟩; (try have g6' := g6 rfl); (try have g7' := g7 rfl); (try have g8 := g6 trivial); (try have g9 := g7 trivial); (try simp at g6); (try simp at g7); omega)
            | (symm; rw [decide_eq_true_eq]; exact ⟨by omega, by omega, by omega, by omega, by omega, fun e => by omega, fun e => by omega⟩)
            | (symm; rw [decide_eq_decide]; refine ⟨?_, fun h => ⟨by omega, by omega, by omega, by omega, by omega, fun e => by omega, fun e => by omega⟩⟩; rintro ⟨g1, g2, g3, g4, g5, g6, g7⟩; (try have g6' := g6 rfl); (try have g7' := g7 rfl); (try have g8 := g6 trivial); (try have g9 := g7 trivial); (try simp at g6); (try simp at g7); omega)
            | (rw [Bool.eq_iff_iff]; simp only [decide_eq_true_eq, beq_iff_eq]; refine ⟨fun h => ⟨by omega, by omega, by omega, by omega, by omega, fun e => by omega, fun e => by omega⟩, ?_⟩; rintro ⟨g1, g2, g3, g4, g5, g6, g7⟩; (try have g6' := g6 rfl); (try have g7' := g7 rfl); (try have g8 := g6 trivial); (try have g9 := g7 trivial); (try simp at g6); (try simp at g7); omega)

theorem feed_be (e m cid : Nat) : feedN e m cid = if e = 8 then (if m % 4 = 1 then [83] ++ be cid 1 else []) else if m % 4 = 2 then [68] ++ be cid 1 else if m % 4 = 0 then [83] ++ be cid 1 else [] := by
  unfold feedN letterN
  split
  · split
    · rw [if_neg (by simp)]
    · rw [if_pos rfl]
  · split
    · rw [if_neg (by simp)]
    · split
      · rw [if_neg (by simp)]
      · rw [if_pos rfl]
theorem ret_str2 {a b : List UInt8} (h : a = b) : Ending.returned (.string (bs a)) = .returned (.string (bs b)) := by rw [h]

set_option maxRecDepth 100000 in
set_option maxHeartbeats 2000000 in
theorem rasks_any (m cid e : Nat) (w : World) (hm : m < 256) (hc : cid < 8) (he : e < 11) :
    Calls Tryz.prog 58 #[.int .i64 m, .int .i64 cid, .int .i64 e] w fun x w' => x = .returned (.string (bs (feedN e m cid))) ∧ Below w.heap.size w w' := by
  rw [feed_be]
  obtain ⟨q, hq⟩ : ∃ q, q = m % 4 := ⟨_, rfl⟩
  have t1 : (m : Int).tmod 4 = (q : Int) := by rw [hq, Int.tmod_eq_emod_of_nonneg (by omega)]; omega
  have t2 : (m : Int) % 4 = (q : Int) := by rw [hq]; omega
  have hl : (be cid 1).length = 1 := be_length _ _
  have hq4 : q < 4 := by omega
  rw [← hq]
  clear hq
  have HB := hide (bytes_any (cid : Int) 1 w (by omega) (by omega) (by omega) (by omega))
  obtain ⟨T, hT⟩ : ∃ T, T = be cid 1 := ⟨_, rfl⟩
  rw [← hT] at hl ⊢
  have HT := hide hT
  clear hT
  by_cases h8 : e = 8
  · subst h8
    rw [if_pos rfl]
    by_cases h1 : q = 1
    · subst h1
      rw [if_pos rfl]
      go_enter Tryz.func58, Tryz.ntmps58
      go_wp2_with (go_at_call 81; refine (unhide HB).mono ?_; rintro e w1 ⟨rfl, h1⟩; have HW := hide h1; clear h1; rw [show be (cid : Int).toNat (1 : Int).toNat = T from (unhide HT).symm])
      go_ret
      exact ⟨ret_str2 rfl, unhide HW⟩
    · rw [if_neg h1]
      have h1I : ¬ ((q : Int) = 1) := by omega
      go_enter Tryz.func58, Tryz.ntmps58
      go_wp2_with (go_at_call 81; refine (unhide HB).mono ?_; rintro e w1 ⟨rfl, h1⟩; have HW := hide h1; clear h1; rw [show be (cid : Int).toNat (1 : Int).toNat = T from (unhide HT).symm])
      go_ret
      exact ⟨rfl, unhide HW⟩
  · rw [if_neg h8]
    have h8I : ¬ ((e : Int) = 8) := by omega
    obtain rfl | rfl | rfl | rfl : q = 0 ∨ q = 1 ∨ q = 2 ∨ q = 3 := by omega
    all_goals
      go_enter Tryz.func58, Tryz.ntmps58
      go_wp2_with (go_at_call 81; refine (unhide HB).mono ?_; rintro e w1 ⟨rfl, h1⟩; have HW := hide h1; clear h1; rw [show be (cid : Int).toNat (1 : Int).toNat = T from (unhide HT).symm])
      go_ret
      exact ⟨ret_str2 rfl, unhide HW⟩

end Go.Proofs.YtgpojbgjfibblabGreat.texts
