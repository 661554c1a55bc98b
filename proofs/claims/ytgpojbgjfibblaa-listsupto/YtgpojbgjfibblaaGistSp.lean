/-
  The walks of the program's Split (packages bundle and gist).
  Conditions stand in each theorem.
-/
import Derived.Test.YtgpojbgjfibblaaGistFr
namespace Go.Proofs.Ytgpojbgjfibblaa.texts
open Go.RowKit
set_option linter.unusedVariables false
attribute [local go_sem ↓] Go.wp_at_zero Go.wp_at_succ
attribute [local go_sem] bs_size bs_append List.length_append bs_list bs_toList bs_extract

set_option maxRecDepth 100000 in
set_option maxHeartbeats 1000000 in
theorem cutFrame_any (s : List UInt8) (w : World) (hs : s.length ≤ 9223372036854775807) :
    Calls Try.prog 96 #[.string (bs s)] w fun e w' => e = .returned (.tuple #[.string (bs (firstF s)), .string (bs (firstR s)), .bool (firstN s).isSome]) ∧ Below w.heap.size w w' := by
  have hR := hide (readLength_any s w hs)
  have hb1 : (lenOf s).1 ≤ 300 := by
    match s with
    | [] => simp [lenOf]
    | [x] => simp only [lenOf]; split <;> simp; omega
    | x :: y :: r =>
      simp only [lenOf]
      split
      · simp; omega
      · split <;> simp; omega
  have hb2 : (lenOf s).2 ≤ 2 := by
    match s with
    | [] => simp [lenOf]
    | [x] => simp only [lenOf]; split <;> simp
    | x :: y :: r =>
      simp only [lenOf]
      split
      · simp
      · split <;> simp
  by_cases h0 : (lenOf s).2 = 0
  · have hN := hide (lenOf_none (Or.inl h0))
    generalize (lenOf s).1 = n at *
    generalize (lenOf s).2 = z at *
    have hz : ((z : Int) == 0) = true := by simp; omega
    go_enter Try.func96, Try.ntmps96
    go_wp2_with (go_at_call 111; refine (unhide hR).mono ?_; rintro e w2 ⟨rfl, hbel⟩)
    go_ret3
    exact ⟨ret_ssb (by unfold firstF; rw [unhide hN]; rfl) (by unfold firstR; rw [unhide hN]; rfl) (by rw [unhide hN]; rfl), hbel⟩
  · by_cases h1 : s.length < (lenOf s).1 + (lenOf s).2
    · have hN := hide (lenOf_none (Or.inr h1))
      generalize (lenOf s).1 = n at *
      generalize (lenOf s).2 = z at *
      have hz : ((z : Int) == 0) = false := beq_eq_false_iff_ne.2 (by omega)
      go_enter Try.func96, Try.ntmps96
      go_wp2_with (go_at_call 111; refine (unhide hR).mono ?_; rintro e w2 ⟨rfl, hbel⟩)
      go_ret3
      exact ⟨ret_ssb (by unfold firstF; rw [unhide hN]; rfl) (by unfold firstR; rw [unhide hN]; rfl) (by rw [unhide hN]; rfl), hbel⟩
    · obtain ⟨hf, hz1⟩ := lenOf_back (s := s) (n := (lenOf s).1) (z := (lenOf s).2) rfl h0 (by omega)
      have hN := hide hf
      have hZ := hide hz1
      clear hf hz1
      generalize (lenOf s).1 = n at *
      generalize (lenOf s).2 = z at *
      have hz : ((z : Int) == 0) = false := beq_eq_false_iff_ne.2 (by omega)
      have hi1 : (0 : Int) ≤ (z : Int) := by omega
      have hi2 : (z : Int) ≤ (s.length : Int) := by omega
      have hi3 : (z : Int) ≤ (z : Int) + (n : Int) := by omega
      have hi4 : (z : Int) + (n : Int) ≤ (s.length : Int) := by omega
      have hi5 : (0 : Int) ≤ (z : Int) + (n : Int) := by omega
      have hi6 : IntKind.i64.wrap ((z : Int) + (n : Int)) = (z : Int) + (n : Int) := wrap_id (by omega) (by omega)
      go_enter Try.func96, Try.ntmps96
      go_wp2_with (go_at_call 111; refine (unhide hR).mono ?_; rintro e w2 ⟨rfl, hbel⟩)
      go_quiet (fail)
      all_goals go_wp2
      all_goals go_ret3
      all_goals refine ⟨ret_ssb ?_ ?_ (by rw [unhide hN]; rfl), below_drewN hbel _⟩
      all_goals have hc := frame_cut (unhide hN)
      all_goals rw [unhide hZ] at hc
      all_goals first | exact hc | (unfold firstR; rw [unhide hN]; simp only [restOf]; rw [unhide hZ])

theorem text_pos {t : List UInt8} (h : t ≠ []) : (t == []) = false := by rw [beq_eq_false_iff_ne]; exact h

set_option maxRecDepth 100000 in
set_option maxHeartbeats 1000000 in
theorem bsplit_any (s : List UInt8) (w : World) (hs : s.length ≤ 9223372036854775807) :
    Calls Try.prog 65 #[.string (bs s)] w fun e w' => ∃ v, e = .returned (.tuple #[v, .int .i64 (splitE s)]) ∧ w'.ownsRow w.heap.size 9 1 v (splitR s).length (strs (splitR s)) ∧ Below w.heap.size w w' := by
  obtain ⟨i0, hi, hz0, hz1, hz2⟩ := info_parts infoS
  go_enter Try.func65, Try.ntmps65
  go_wp2_with fail
  go_loopw [0, 4] (fun t v wr => ∃ (T : List UInt8) (fr : List (List UInt8)), T.length ≤ s.length ∧ fr.length ≤ 8 ∧ t = .string (bs T) ∧ splitL 8 s = (splitL (8 - fr.length) T).map (fr ++ ·) ∧ wr.ownsRow w.heap.size 9 1 v fr.length (strs fr) ∧ Below w.heap.size w wr) (fun t _ _ => strLen t)
  case atStart =>
    refine ⟨s, [], Nat.le_refl _, by simp, rfl, ?_, World.ownsRow_nil _ _ _ _, Below.refl _ _⟩
    cases splitL 8 s <;> simp
  case round =>
    obtain ⟨T, fr, hT, hfr, rfl, hsplit, hown, hbel⟩ := hrel
    obtain ⟨ao, cap, rfl⟩ := own_slice hown
    have HS := hide hsplit
    have HO := hide hown
    have HB := hide hbel
    have hz : w.heap.size ≤ wr.heap.size := hbel.size
    clear hsplit hown hbel
    by_cases hnil : T = []
    · subst hnil
      obtain ⟨e1, e2⟩ := split_end (unhide HS)
      have E1 := hide e1
      have E2 := hide e2
      clear e1 e2
      by_cases h8 : fr.length < 8
      · go_wp2_with fail
        go_ret2
        refine ⟨_, ret_vi rfl (unhide E1).symm, ?_, unhide HB⟩
        rw [unhide E2]
        exact unhide HO
      · go_wp2_with fail
        go_ret2
        refine ⟨_, ret_vi rfl (unhide E1).symm, ?_, unhide HB⟩
        rw [unhide E2]
        exact unhide HO
    · have hne : (T == []) = false := by rw [beq_eq_false_iff_ne]; exact hnil
      have Hnil := hide hnil
      clear hnil
      by_cases h8 : fr.length < 8
      · cases hfn : firstN T with
        | none =>
          obtain ⟨e1, e2⟩ := split_fail (unhide HS) (splitL_bad _ (unhide Hnil) hfn)
          have E1 := hide e1
          have E2 := hide e2
          clear e1 e2
          have hF := hide (cutFrame_any T)
          unfold firstF firstR at hF
          rw [hfn] at hF
          clear hfn
          go_wp2_with fail
          refine (unhide hF _ (by omega)).mono ?_
          rintro e w2 ⟨rfl, hb2⟩
          go_wp2_with fail
          go_ret2
          refine ⟨_, ret_vi rfl (unhide E1).symm, ?_, grew_call (unhide HB) hb2⟩
          rw [unhide E2]
          exact World.ownsRow_nil _ _ _ _
        | some n =>
          have hF := hide (cutFrame_any T)
          unfold firstF firstR at hF
          rw [hfn] at hF
          have hmore := hide (split_more (unhide HS) (by omega) (unhide Hnil) hfn)
          have hlt := hide (rest_lt hfn)
          have Hfn := hide hfn
          clear hfn
          go_wp2_with fail
          refine (unhide hF _ (by omega)).mono ?_
          rintro e w2 ⟨rfl, hb2⟩
          have hown := own_keep (unhide HO) hb2
          have HB2 := hide (grew_call (unhide HB) hb2)
          have hzw : w.heap.size ≤ w2.heap.size := Nat.le_trans hz hb2.size
          clear hb2 HO HB
          go_wp2_with (at_builtin; refine wpList_append_own _ rfl _ _ 63 rfl w.heap.size 9 i0 (.string ⟨#[]⟩) 1 16 Try.underlying63 hi hz0 hz1 hz2 rfl (by decide) _ _ _ rfl (hown.alloc _) ⟨w2.heap.size, 0, none⟩ 1 1 [.string (bs (frameOf T n))] rfl rfl ?c1 ?c2 ?c3 ?c4 ?c5 ?_)
          case c1 =>
            intro j u hj
            match j, hj with
            | 0, hj => simp at hj; subst hj; simp [Addr.add]
          case c2 => intro u hu; simp at hu; subst hu; rfl
          case c3 => unfold maxLen; omega
          case c4 => omega
          case c5 => simp; omega
          · intro v' w3 hown3 hgrow3 _
            obtain ⟨R1, R2⟩ := own_more (unhide HB2) hzw hown hown3 hgrow3
            have H1 := hide R1
            have H2 := hide R2
            clear hown hown3 hgrow3 HB2 R1 R2
            go_wp2
            go_roundw
            case rel => exact ⟨restOf T n, fr ++ [frameOf T n], by have := unhide hlt; omega, by simp; omega, rfl, unhide hmore, unhide H1, unhide H2⟩
            case measure =>
              have := unhide hlt
              simp [strLen, bs_size]; omega
      · obtain ⟨e1, e2⟩ := split_fail (unhide HS) (by rw [show fr.length = 8 by omega]; exact splitL_many (unhide Hnil))
        have E1 := hide e1
        have E2 := hide e2
        clear e1 e2
        go_wp2_with fail
        go_ret2
        refine ⟨_, ret_vi rfl (unhide E1).symm, ?_, unhide HB⟩
        rw [unhide E2]
        exact World.ownsRow_nil _ _ _ _

set_option maxHeartbeats 400000 in
theorem gsplit_any (s : List UInt8) (w : World) (hs : s.length ≤ 9223372036854775807) :
    Calls Try.prog 32 #[.string (bs s)] w fun e w' => ∃ v, e = .returned (.tuple #[v, .int .i64 (splitE s)]) ∧ w'.ownsRow w.heap.size 9 1 v (splitR s).length (strs (splitR s)) ∧ Below w.heap.size w w' := by
  have H := hide (bsplit_any s w hs)
  go_enter Try.func32, Try.ntmps32
  go_wp2_with fail
  refine (unhide H).mono ?_
  rintro e w2 ⟨v, rfl, hown, hb2⟩
  obtain ⟨ao, cap, rfl⟩ := own_slice hown
  have HO := hide hown
  clear hown
  go_wp2_with fail
  go_ret2
  exact ⟨_, rfl, unhide HO, hb2⟩

end Go.Proofs.Ytgpojbgjfibblaa.texts
