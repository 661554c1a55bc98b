/-
  The walks of the program's Join (packages bundle and gist), and of the length with which a text begins.
  Conditions stand in each theorem.
-/
import Derived.Test.YtgpojbgjfibblaaFrameCut
import Derived.Test.YtgpojbgjfibblaaWire
namespace Go.Proofs.Ytgpojbgjfibblaa.texts
open Go.RowKit
set_option linter.unusedVariables false
attribute [local go_sem ↓] Go.wp_at_zero Go.wp_at_succ
attribute [local go_sem] bs_size bs_append List.length_append bs_list bs_toList

set_option maxRecDepth 100000 in
set_option maxHeartbeats 400000 in
theorem lengthText_any (n : Int) (w : World) (h0 : 0 ≤ n) (h1 : n ≤ 32767) :
    Calls Try.prog 97 #[.int .i64 n] w fun e w' => e = .returned (.string (bs (toldL n.toNat))) ∧ Below w.heap.size w w' := by
  obtain ⟨n, rfl⟩ := Int.eq_ofNat_of_zero_le h0
  rw [Int.toNat_natCast]
  by_cases h : n < 128
  · have e := hide (show toldL n = be n 1 by unfold toldL; rw [if_pos h])
    have hw : IntKind.u8.wrap (n : Int) = n := wrap8 (by omega)
    go_enter Try.func97, Try.ntmps97
    go_wp2_with (go_at_call 89; refine (text8_any _ _ (by omega) (by omega)).mono ?_; rintro e w' ⟨rfl, hbel⟩)
    go_ret
    exact ⟨ret_str (by rw [unhide e]), hbel⟩
  · have e := hide (show toldL n = be (128 + n / 256) 1 ++ be (n % 256) 1 by
      unfold toldL; rw [if_neg h, be2, be1, be1, show (32768 + n) / 256 % 256 = (128 + n / 256) % 256 by omega, show (32768 + n) % 256 = n % 256 % 256 by omega]; rfl)
    have hw : IntKind.u8.wrap (128 + (n : Int) / 256) = 128 + (n : Int) / 256 := by rw [IntKind.wrap_u8']; omega
    have hw2 : IntKind.u8.wrap ((n : Int) % 256) = (n : Int) % 256 := by rw [IntKind.wrap_u8']; omega
    go_enter Try.func97, Try.ntmps97
    go_wp2_with (go_at_call 89; refine (text8_any _ _ (by omega) (by omega)).mono ?_; rintro e w' ⟨rfl, hbel⟩)
    go_ret
    rename_i wA hA hno
    exact ⟨ret_str (by rw [unhide e]), grew_call hA hbel⟩

set_option maxHeartbeats 1000000 in
set_option maxRecDepth 100000 in
theorem bjoin_any (w : World) (v : Value) (ls : List (List UInt8)) (ao : Option Addr) (b off cap : Nat) (hT : TextsAt w v ls ao b off cap) (hmax : ls.length ≤ 9223372036854775807) :
    Calls Try.prog 70 #[v] w fun e w' => e = .returned (.tuple #[.string (bs (joinR ls)), .int .i64 (joinE ls)]) ∧ Below w.heap.size w w' := by
  obtain ⟨rfl, haddr, hcell⟩ := hT
  by_cases hmany : 8 < ls.length
  · have e := hide (joinE_many hmany)
    clear haddr hcell
    go_enter Try.func70, Try.ntmps70
    go_wp2_with fail
    go_ret2
    exact ⟨ret_si' (by rw [(unhide e).2]; rfl) (unhide e).1.symm, Below.refl _ _⟩
  · have HA := hide haddr
    have HC := hide hcell
    have HT : Hid (TextsAt w (.slice ao ls.length cap) ls ao b off cap) := ⟨rfl, haddr, hcell⟩
    clear haddr hcell
    go_enter Try.func70, Try.ntmps70
    go_wp2_with fail
    go_loopw [4, 5] (fun s i wr => ∃ k : Nat, k ≤ ls.length ∧ i = .int .i64 k ∧ s = .string (bs (joinL (ls.take k))) ∧ (∀ f ∈ ls.take k, f.length ≤ 300) ∧ Below w.heap.size w wr) (fun _ i _ => ls.length - (intOf i).toNat)
    case atStart => exact ⟨0, Nat.zero_le _, rfl, rfl, by simp, Below.refl _ _⟩
    case round =>
      obtain ⟨k, hk, rfl, rfl, hsh, hbel⟩ := hrel
      have Hsh := hide hsh
      have HB := hide hbel
      clear hsh hbel
      by_cases hlt : k < ls.length
      · obtain rfl := unhide HA (by omega)
        have hc := ((unhide HT).keep (unhide HB)).cell k hlt
        have hnext := hide (take_next hlt)
        have hJ := joinL_length (ls.take k) (unhide Hsh)
        have hJ2 : (ls.take k).length ≤ 8 := by simp; omega
        by_cases hlong : 300 < (ls[k]?.getD []).length
        · have e := hide (joinE_long hmany hlt hlong)
          generalize hf : ls[k]?.getD [] = f at *
          clear hf
          go_wp2_with fail
          go_ret2
          exact ⟨ret_si' (by rw [(unhide e).2]; rfl) (unhide e).1.symm, unhide HB⟩
        · generalize hf : ls[k]?.getD [] = f at *
          have Hf := hide hf
          have hT2 := toldL_le f.length
          generalize hA : joinL (ls.take k) = A at *
          have HAA := hide hA
          clear hf hA
          have hA2 : A.length ≤ 2416 := by omega
          have hn1 : ¬ 9223372036854775807 < A.length + (toldL f.length).length := by omega
          have hn2 : ¬ 9223372036854775807 < A.length + (toldL f.length).length + f.length := by omega
          have hn3 : ¬ 9223372036854775807 < A.length + ((toldL f.length).length + f.length) := by omega
          have hk0 : (0 : Int) ≤ (k : Int) := by omega
          have hk1 : (k : Int) < (ls.length : Int) := by omega
          go_wp2_with fail
          go_region_held3 (fun w' => w'.cell? ⟨b, off + k, none⟩ = some (.string (bs f)) ∧ Below w.heap.size w w')
            (first | exact ⟨hc, (unhide HB).drew⟩ | (go_split_ands; exact ⟨keep_cell (by assumption) hbel, grew_call (by assumption) hbel⟩))
            ((go_at_call 97; refine (lengthText_any _ _ (by omega) (by omega)).mono ?_; rintro e w' ⟨rfl, hbel⟩))
          all_goals go_split_ands
          all_goals
            have HB' := hide (show Below w.heap.size w w' by assumption)
            go_wp2
            go_roundw
            case rel =>
              refine ⟨k + 1, by omega, by go_num, ?_, ?_, unhide HB'⟩
              · rw [unhide hnext, joinL_snoc, unhide HAA]
              · rw [unhide hnext]
                intro g hg
                rcases List.mem_append.1 hg with hg | hg
                · exact unhide Hsh g hg
                · simp at hg; subst hg; omega
            case measure => simp [intOf]; omega
      · have e : k = ls.length := by omega
        subst e
        have Hsh2 := unhide Hsh
        rw [List.take_length] at Hsh2
        have e := hide (joinE_good hmany Hsh2)
        clear Hsh2
        go_wp2_with fail
        go_ret2
        exact ⟨ret_si' (by rw [(unhide e).2, List.take_length]) (unhide e).1.symm, unhide HB⟩

set_option maxHeartbeats 400000 in
theorem gjoin_any (w : World) (v : Value) (ls : List (List UInt8)) (ao : Option Addr) (b off cap : Nat) (hT : TextsAt w v ls ao b off cap) (hmax : ls.length ≤ 9223372036854775807) :
    Calls Try.prog 37 #[v] w fun e w' => e = .returned (.tuple #[.string (bs (joinR ls)), .int .i64 (joinE ls)]) ∧ Below w.heap.size w w' := by
  have H := hide (bjoin_any w v ls ao b off cap hT hmax)
  obtain rfl := hT.form
  clear hT
  go_enter Try.func37, Try.ntmps37
  go_wp2_with (go_at_call 70; refine (unhide H).mono ?_; rintro e w2 ⟨rfl, hb2⟩)
  go_ret2
  exact ⟨rfl, hb2⟩

/-- the length with which a text begins -/
theorem byte0 (l : List UInt8) (h : 0 < l.length) : ((bs l)[0]'(by rw [bs_size]; exact h)).toNat = l[0].toNat := rfl
theorem byte1 (l : List UInt8) (h : 1 < l.length) : ((bs l)[1]'(by rw [bs_size]; exact h)).toNat = l[1].toNat := rfl

theorem ret_ii {a b c d : Int} (h : a = b) (g : c = d) : Ending.returned (.tuple #[.int .i64 a, .int .i64 c]) = .returned (.tuple #[.int .i64 b, .int .i64 d]) := by rw [h, g]

theorem lenOf_low {s : List UInt8} (h : 0 < s.length) (ha : s[0].toNat < 128) : lenOf s = (s[0].toNat, 1) := by
  match s, h with
  | [x], _ => simp only [lenOf]; rw [if_pos (by simpa using ha)]; rfl
  | x :: y :: r, _ => simp only [lenOf]; rw [if_pos (by simpa using ha)]; rfl
theorem lenOf_lone {s : List UInt8} (h : s.length = 1) (ha : ¬ s[0].toNat < 128) : lenOf s = (0, 0) := by
  match s, h with
  | [x], _ => simp only [lenOf]; rw [if_neg (by simpa using ha)]
theorem lenOf_two {s : List UInt8} (h : 1 < s.length) (ha : ¬ s[0].toNat < 128) : lenOf s = if (s[0].toNat - 128) * 256 + s[1].toNat < 128 ∨ 300 < (s[0].toNat - 128) * 256 + s[1].toNat then (0, 0) else ((s[0].toNat - 128) * 256 + s[1].toNat, 2) := by
  match s, h with
  | x :: y :: r, _ => simp only [lenOf]; rw [if_neg (by simpa using ha)]; rfl

set_option maxHeartbeats 1000000 in
set_option maxRecDepth 100000 in
theorem readLength_any (s : List UInt8) (w : World) (hs : s.length ≤ 9223372036854775807) :
    Calls Try.prog 111 #[.string (bs s)] w fun e w' => e = .returned (.tuple #[.int .i64 ((lenOf s).1 : Nat), .int .i64 ((lenOf s).2 : Nat)]) ∧ Below w.heap.size w w' := by
  by_cases h0 : s.length = 0
  · have e := hide (show lenOf s = (0, 0) by rw [List.length_eq_zero_iff.1 h0]; rfl)
    go_enter Try.func111, Try.ntmps111
    go_wp2_with fail
    go_ret2
    exact ⟨by rw [unhide e]; rfl, Below.refl _ _⟩
  · have hp : 0 < s.length := by omega
    have hq : 0 < (bs s).size := by rw [bs_size]; exact hp
    have b0 := byte0 s hp
    have l0 := s[0].toNat_lt
    have hne : ((s.length : Int) == 0) = false := beq_eq_false_iff_ne.2 (by omega)
    by_cases ha : s[0].toNat < 128
    · have e := hide (lenOf_low hp ha)
      generalize s[0].toNat = A at *
      go_enter Try.func111, Try.ntmps111
      go_wp2_with fail
      go_ret2
      exact ⟨by rw [unhide e]; rfl, Below.refl _ _⟩
    · by_cases h1 : s.length = 1
      · have e := hide (lenOf_lone h1 ha)
        have hne1 : ((s.length : Int) == 1) = true := by simp; omega
        generalize s[0].toNat = A at *
        go_enter Try.func111, Try.ntmps111
        go_wp2_with fail
        go_ret2
        exact ⟨by rw [unhide e]; rfl, Below.refl _ _⟩
      · have hp1 : 1 < s.length := by omega
        have hq1 : 1 < (bs s).size := by rw [bs_size]; exact hp1
        have b1 := byte1 s hp1
        have l1 := s[1].toNat_lt
        have hne1 : ((s.length : Int) == 1) = false := beq_eq_false_iff_ne.2 (by omega)
        have e := hide (lenOf_two hp1 ha)
        generalize s[0].toNat = A at *
        generalize s[1].toNat = C at *
        have hw : IntKind.u8.wrap ((A : Int) - 128) = (A : Int) - 128 := by rw [IntKind.wrap_u8']; omega
        by_cases hL : (A - 128) * 256 + C < 128
        · go_enter Try.func111, Try.ntmps111
          go_wp2_with fail
          go_quiet (fail)
          all_goals go_wp2_with fail
          all_goals go_ret2
          all_goals exact ⟨by rw [unhide e, if_pos (Or.inl hL)]; rfl, below_drewN (Below.refl _ _) _⟩
        · by_cases hL2 : 300 < (A - 128) * 256 + C
          · go_enter Try.func111, Try.ntmps111
            go_wp2_with fail
            go_quiet (fail)
            all_goals go_wp2_with fail
            all_goals go_ret2
            all_goals exact ⟨by rw [unhide e, if_pos (Or.inr hL2)]; rfl, below_drewN (Below.refl _ _) _⟩
          · go_enter Try.func111, Try.ntmps111
            go_wp2_with fail
            go_quiet (fail)
            all_goals go_wp2_with fail
            all_goals go_ret2
            all_goals refine ⟨?_, below_drewN (Below.refl _ _) _⟩
            all_goals rw [unhide e, if_neg (by omega)]
            all_goals exact ret_ii (by simp only; omega) rfl

end Go.Proofs.Ytgpojbgjfibblaa.texts
