/-
  The walks of the document's first and Split (package gistref).
  Conditions stand in each theorem.
-/
import Derived.Test.YtgpojbgjfibblaaRefJoin
import Derived.Test.YtgpojbgjfibblaaReads
import Derived.Deep.QuietTactic
import Derived.BigQuiet
namespace Go.Proofs.Ytgpojbgjfibblaa.texts
open Go.RowKit
set_option linter.unusedVariables false
attribute [local go_sem ↓] Go.wp_at_zero Go.wp_at_succ
attribute [local go_sem] bs_size bs_append List.length_append bs_list bs_toList bs_extract

/-- what first answers -/
def firstF (s : List UInt8) : List UInt8 := match firstN s with | some n => frameOf s n | none => []
def firstR (s : List UInt8) : List UInt8 := match firstN s with | some n => restOf s n | none => []

theorem ret_ssb {a b c d : ByteArray} {x y : Bool} (h : a = b) (g : c = d) (i : x = y) : Ending.returned (.tuple #[.string a, .string c, .bool x]) = .returned (.tuple #[.string b, .string d, .bool y]) := by rw [h, g, i]

theorem firstN_found {s : List UInt8} {k : Nat} (h : firstN s = firstFrom s k (301 - k)) (hk : k ≤ 300) (hb : begins s k = true) : firstN s = some k := by
  rw [h, show 301 - k = (300 - k) + 1 by omega, firstFrom, if_pos hb]
theorem firstN_next {s : List UInt8} {k : Nat} (h : firstN s = firstFrom s k (301 - k)) (hk : k ≤ 300) (hb : begins s k = false) : firstN s = firstFrom s (k + 1) (301 - (k + 1)) := by
  rw [h, show 301 - k = (301 - (k + 1)) + 1 by omega, firstFrom, if_neg (by rw [hb]; decide)]
theorem firstFrom_none (s : List UInt8) (k m : Nat) (h : s.length ≤ k ∨ 300 < k) : firstFrom s k m = none := by
  induction m generalizing k with
  | zero => rfl
  | succ m ih =>
    rw [firstFrom, if_neg, ih (k + 1) (by omega)]
    intro hb
    have := begins_facts hb
    omega
theorem begins_no {s : List UInt8} {n : Nat} (h : ¬ ((toldL n).length + n ≤ s.length ∧ s.take (toldL n).length = toldL n)) : begins s n = false := by
  cases hb : begins s n
  · rfl
  · have := begins_facts hb
    exact absurd ⟨this.2.2.1, this.2.2.2⟩ h

theorem frame_cut {s : List UInt8} {k : Nat} (h : firstN s = some k) : bs (List.drop (toldL k).length (List.take ((toldL k).length + k) s)) = bs (firstF s) := by
  unfold firstF
  rw [h]
  simp only [frameOf]
  rw [List.drop_take, Nat.add_sub_cancel_left]

set_option maxRecDepth 100000 in
set_option maxHeartbeats 1000000 in
theorem first_any (s : List UInt8) (w : World) (hs : s.length ≤ 9223372036854775807) :
    Calls Try.prog 66 #[.string (bs s)] w fun e w' => e = .returned (.tuple #[.string (bs (firstF s)), .string (bs (firstR s)), .bool (firstN s).isSome]) ∧ Below w.heap.size w w' := by
  go_enter Try.func66, Try.ntmps66
  go_wp2_with fail
  go_loopw [5] (fun n wr => ∃ k : Nat, k ≤ 301 ∧ n = .int .i64 k ∧ firstN s = firstFrom s k (301 - k) ∧ Below w.heap.size w wr) (fun n _ => 301 - (intOf n).toNat)
  case atStart => exact ⟨0, by omega, rfl, rfl, Below.refl _ _⟩
  case round =>
    obtain ⟨k, hk, rfl, hfirst, hbel⟩ := hrel
    have HF := hide hfirst
    have HB := hide hbel
    clear hfirst hbel
    by_cases hin : k ≤ 300 ∧ k < s.length
    · obtain ⟨h3, hlt⟩ := hin
      have hK1 := toldL_pos k
      have hK2 := toldL_le k
      by_cases hfit : (toldL k).length + k ≤ s.length
      · by_cases heq : s.take (toldL k).length = toldL k
        · have hfound := hide (firstN_found (unhide HF) h3 (begins_mk h3 hlt hfit heq))
          have heq2 : (List.take (toldL k).length s == toldL k) = true := by rw [heq]; simp
          have Heq := hide heq
          clear heq
          have hi1 : (0 : Int) ≤ ((toldL k).length : Int) := by omega
          have hi2 : ((toldL k).length : Int) ≤ (s.length : Int) := by omega
          have hi3 : ((toldL k).length : Int) ≤ ((toldL k).length : Int) + (k : Int) := by omega
          have hi4 : ((toldL k).length : Int) + (k : Int) ≤ (s.length : Int) := by omega
          have hi5 : (0 : Int) ≤ ((toldL k).length : Int) + (k : Int) := by omega
          have hi6 : IntKind.i64.wrap (((toldL k).length : Int) + (k : Int)) = ((toldL k).length : Int) + (k : Int) := wrap_id (by omega) (by omega)
          go_wp2_with (go_at_call 95; refine (told_any _ _ (by omega) (by omega)).mono ?_; rintro e w' ⟨rfl, hbel⟩; rw [Int.toNat_natCast])
          have HB2 := hide (grew_call (unhide HB) hbel)
          clear hbel
          go_quiet (fail)
          all_goals go_wp2
          all_goals go_ret3
          all_goals exact ⟨ret_ssb (by rw [frame_cut (unhide hfound)]) (by unfold firstR; rw [unhide hfound]; rfl) (by rw [unhide hfound]; rfl), below_drewN (unhide HB2) _⟩
        · have hnext := hide (firstN_next (unhide HF) h3 (begins_no (fun h => heq h.2)))
          have heq2 : (List.take (toldL k).length s == toldL k) = false := by rw [beq_eq_false_iff_ne]; exact heq
          have Heq := hide heq
          clear heq
          have hi1 : (0 : Int) ≤ ((toldL k).length : Int) := by omega
          have hi2 : ((toldL k).length : Int) ≤ (s.length : Int) := by omega
          go_wp2_with (go_at_call 95; refine (told_any _ _ (by omega) (by omega)).mono ?_; rintro e w' ⟨rfl, hbel⟩; rw [Int.toNat_natCast])
          have HB2 := hide (grew_call (unhide HB) hbel)
          clear hbel
          go_roundw
          case rel => exact ⟨k + 1, by omega, by go_num, unhide hnext, unhide HB2⟩
          case measure => simp [intOf]; omega
      · have hnext := hide (firstN_next (unhide HF) h3 (begins_no (fun h => hfit h.1)))
        go_wp2_with (go_at_call 95; refine (told_any _ _ (by omega) (by omega)).mono ?_; rintro e w' ⟨rfl, hbel⟩; rw [Int.toNat_natCast])
        have HB2 := hide (grew_call (unhide HB) hbel)
        clear hbel
        go_roundw
        case rel => exact ⟨k + 1, by omega, by go_num, unhide hnext, unhide HB2⟩
        case measure => simp [intOf]; omega
    · have hnone := hide (show firstN s = none by rw [unhide HF]; exact firstFrom_none s k _ (by omega))
      by_cases h3 : k ≤ 300
      · have hge : s.length ≤ k := by omega
        go_wp2_with fail
        go_ret3
        exact ⟨ret_ssb (by unfold firstF; rw [unhide hnone]; rfl) (by unfold firstR; rw [unhide hnone]; rfl) (by rw [unhide hnone]; rfl), unhide HB⟩
      · go_wp2_with fail
        go_ret3
        exact ⟨ret_ssb (by unfold firstF; rw [unhide hnone]; rfl) (by unfold firstR; rw [unhide hnone]; rfl) (by rw [unhide hnone]; rfl), unhide HB⟩

theorem infoS : (Try.prog.info? 9).map (fun i => (i.zero, i.size, i.bytes)) = some (some (.string ⟨#[]⟩), 1, 16) := by kernel_rfl
/-- texts as cells -/
def strs (l : List (List UInt8)) : List Value := l.map fun f => .string (bs f)
theorem strs_snoc (l : List (List UInt8)) (f : List UInt8) : strs (l ++ [f]) = strs l ++ [.string (bs f)] := by simp [strs]
theorem strs_length (l : List (List UInt8)) : (strs l).length = l.length := by simp [strs]
/-- the length of a text in a slot -/
def strLen : Value → Nat | .string b => b.size | _ => 0

theorem splitL_nil (m : Nat) : splitL m [] = some [] := by unfold splitL; rw [if_pos rfl]
theorem splitL_bad (m : Nat) {t : List UInt8} (ht : t ≠ []) (h : firstN t = none) : splitL m t = none := by
  unfold splitL; rw [if_neg ht, h]
theorem splitL_many {t : List UInt8} (ht : t ≠ []) : splitL 0 t = none := by
  unfold splitL; rw [if_neg ht]; cases firstN t <;> rfl
theorem splitL_step (m : Nat) {t : List UInt8} (ht : t ≠ []) {n : Nat} (h : firstN t = some n) : splitL (m + 1) t = (splitL m (restOf t n)).map (frameOf t n :: ·) := by
  conv => lhs; unfold splitL
  rw [if_neg ht, h]
theorem rest_lt {t : List UInt8} {n : Nat} (h : firstN t = some n) : (restOf t n).length < t.length := by
  have hb := begins_facts (firstFrom_begins _ _ _ _ h)
  have := toldL_pos n
  unfold restOf; simp; omega

/-- one frame more -/
theorem split_more {s t : List UInt8} {fr : List (List UInt8)} {n : Nat} (h : splitL 8 s = (splitL (8 - fr.length) t).map (fr ++ ·)) (hl : fr.length < 8) (ht : t ≠ []) (hn : firstN t = some n) :
    splitL 8 s = (splitL (8 - (fr ++ [frameOf t n]).length) (restOf t n)).map ((fr ++ [frameOf t n]) ++ ·) := by
  rw [h, show 8 - fr.length = (8 - (fr ++ [frameOf t n]).length) + 1 by simp; omega, splitL_step _ ht hn]
  cases splitL (8 - (fr ++ [frameOf t n]).length) (restOf t n) <;> simp

theorem own_more {B : Nat} {w wr w1 : World} {v v' : Value} {fr : List (List UInt8)} {f : List UInt8} {o : Obj} (hbel : Below B w wr) (hB : B ≤ wr.heap.size)
    (hown : wr.ownsRow B 9 1 v fr.length (strs fr)) (hown1 : w1.ownsRow B 9 1 v' (fr.length + 1) (strs fr ++ [.string (bs f)])) (hg : (wr.alloc o).grownBy w1 v.ownBlock) :
    w1.ownsRow B 9 1 v' (fr ++ [f]).length (strs (fr ++ [f])) ∧ Below B w w1 := by
  have hb1 : Below B w w1 := (hbel.alloc hB o).grown hg (by simp; omega) (fun k hk => (hown.lt k hk).1)
  refine ⟨?_, hb1⟩
  rw [strs_snoc]
  simpa using hown1

theorem own_keep {w w2 : World} {base : Nat} {e : TypeId} {size : Nat} {v : Value} {n : Nat} {xs : List Value} (h : w.ownsRow base e size v n xs) (hb : Below w.heap.size w w2) : w2.ownsRow base e size v n xs := by
  refine ⟨h.1, ?_⟩
  rcases h.2 with h2 | ⟨g, cap, cur, hv, hg, hh, r⟩
  · exact Or.inl h2
  · exact Or.inr ⟨g, cap, cur, hv, hg, by rw [hb.block g (Array.getElem?_eq_some_iff.1 hh).1]; exact hh, r⟩
theorem split_end {s : List UInt8} {fr : List (List UInt8)} (h : splitL 8 s = (splitL (8 - fr.length) []).map (fr ++ ·)) : splitE s = 0 ∧ splitR s = fr := by
  rw [splitL_nil] at h
  simp at h
  exact ⟨by unfold splitE; rw [h], by unfold splitR; rw [h]; rfl⟩
theorem split_fail {s T : List UInt8} {fr : List (List UInt8)} (h : splitL 8 s = (splitL (8 - fr.length) T).map (fr ++ ·)) (hT : splitL (8 - fr.length) T = none) : splitE s = 4 ∧ splitR s = [] := by
  rw [hT] at h
  simp at h
  exact ⟨by unfold splitE; rw [h], by unfold splitR; rw [h]; rfl⟩
theorem ret_vi {a b : Value} {c d : Int} (h : a = b) (g : c = d) : Ending.returned (.tuple #[a, .int .i64 c]) = .returned (.tuple #[b, .int .i64 d]) := by rw [h, g]
theorem own_slice {w : World} {base : Nat} {e : TypeId} {v : Value} {n : Nat} {xs : List Value} (h : w.ownsRow base e 1 v n xs) : ∃ ao cap, v = .slice ao n cap := by
  rcases h.2 with ⟨rfl, rfl⟩ | ⟨g, cap, cur, rfl, hb, hg, r⟩
  · exact ⟨none, 0, rfl⟩
  · exact ⟨some ⟨g, 0, none⟩, cap, rfl⟩

set_option maxRecDepth 100000 in
set_option maxHeartbeats 1000000 in
theorem rsplit_any (s : List UInt8) (w : World) (hs : s.length ≤ 9223372036854775807) :
    Calls Try.prog 33 #[.string (bs s)] w fun e w' => ∃ v, e = .returned (.tuple #[v, .int .i64 (splitE s)]) ∧ w'.ownsRow w.heap.size 9 1 v (splitR s).length (strs (splitR s)) ∧ Below w.heap.size w w' := by
  obtain ⟨i0, hi, hz0, hz1, hz2⟩ := info_parts infoS
  go_enter Try.func33, Try.ntmps33
  go_wp2_with fail
  go_loopw [0, 4] (fun t v wr => ∃ (T : List UInt8) (fr : List (List UInt8)), T.length ≤ s.length ∧ fr.length ≤ 8 ∧ t = .string (bs T) ∧ splitL 8 s = (splitL (8 - fr.length) T).map (fr ++ ·) ∧ wr.ownsRow w.heap.size 9 1 v fr.length (strs fr) ∧ Below w.heap.size w wr) (fun t _ _ => strLen t)
  case atStart =>
    refine ⟨s, [], Nat.le_refl _, by simp, rfl, ?_, World.ownsRow_nil _ _ _ _, Below.refl _ _⟩
    cases splitL 8 s <;> simp
  case round =>
    obtain ⟨T, fr, hT, hfr, rfl, hsplit, hown, hbel⟩ := hrel
    obtain ⟨ao, cap, rfl⟩ := own_slice hown
    have HS := hide hsplit
    have HO := hide hown
    have HB := hide hbel
    have hz : w.heap.size ≤ wr.heap.size := hbel.size
    clear hsplit hown hbel
    by_cases hnil : T = []
    · subst hnil
      obtain ⟨e1, e2⟩ := split_end (unhide HS)
      have E1 := hide e1
      have E2 := hide e2
      clear e1 e2
      go_wp2_with fail
      go_ret2
      refine ⟨_, ret_vi rfl (unhide E1).symm, ?_, unhide HB⟩
      rw [unhide E2]
      exact unhide HO
    · have hne : (T == []) = false := by rw [beq_eq_false_iff_ne]; exact hnil
      have Hnil := hide hnil
      clear hnil
      cases hfn : firstN T with
      | none =>
        obtain ⟨e1, e2⟩ := split_fail (unhide HS) (splitL_bad _ (unhide Hnil) hfn)
        have E1 := hide e1
        have E2 := hide e2
        clear e1 e2
        have hF := hide (first_any T)
        unfold firstF firstR at hF
        rw [hfn] at hF
        clear hfn
        go_wp2_with fail
        refine (unhide hF _ (by omega)).mono ?_
        rintro e w2 ⟨rfl, hb2⟩
        go_wp2_with fail
        go_ret2
        refine ⟨_, ret_vi rfl (unhide E1).symm, ?_, grew_call (unhide HB) hb2⟩
        rw [unhide E2]
        exact World.ownsRow_nil _ _ _ _
      | some n =>
        have hF := hide (first_any T)
        unfold firstF firstR at hF
        rw [hfn] at hF
        by_cases h8 : fr.length = 8
        · have h8b : ((fr.length : Int) == 8) = true := by simp; omega
          obtain ⟨e1, e2⟩ := split_fail (unhide HS) (by rw [h8]; exact splitL_many (unhide Hnil))
          have E1 := hide e1
          have E2 := hide e2
          have H8 := hide h8
          clear e1 e2 hfn h8
          go_wp2_with fail
          refine (unhide hF _ (by omega)).mono ?_
          rintro e w2 ⟨rfl, hb2⟩
          go_wp2_with fail
          go_ret2
          refine ⟨_, ret_vi rfl (unhide E1).symm, ?_, grew_call (unhide HB) hb2⟩
          rw [unhide E2]
          exact World.ownsRow_nil _ _ _ _
        · have h8b : ((fr.length : Int) == 8) = false := by simp; omega
          have hmore := hide (split_more (unhide HS) (by omega) (unhide Hnil) hfn)
          have hlt := hide (rest_lt hfn)
          have Hfn := hide hfn
          clear hfn
          go_wp2_with fail
          refine (unhide hF _ (by omega)).mono ?_
          rintro e w2 ⟨rfl, hb2⟩
          have hown := own_keep (unhide HO) hb2
          have HB2 := hide (grew_call (unhide HB) hb2)
          have hzw : w.heap.size ≤ w2.heap.size := Nat.le_trans hz hb2.size
          clear hb2 HO HB
          go_wp2_with (at_builtin; refine wpList_append_own _ rfl _ _ 63 rfl w.heap.size 9 i0 (.string ⟨#[]⟩) 1 16 Try.underlying63 hi hz0 hz1 hz2 rfl (by decide) _ _ _ rfl (hown.alloc _) ⟨w2.heap.size, 0, none⟩ 1 1 [.string (bs (frameOf T n))] rfl rfl ?c1 ?c2 ?c3 ?c4 ?c5 ?_)
          case c1 =>
            intro j u hj
            match j, hj with
            | 0, hj => simp at hj; subst hj; simp [Addr.add]
          case c2 => intro u hu; simp at hu; subst hu; rfl
          case c3 => unfold maxLen; omega
          case c4 => omega
          case c5 => simp; omega
          · intro v' w3 hown3 hgrow3 _
            obtain ⟨R1, R2⟩ := own_more (unhide HB2) hzw hown hown3 hgrow3
            have H1 := hide R1
            have H2 := hide R2
            clear hown hown3 hgrow3 HB2 R1 R2
            go_wp2
            go_roundw
            case rel => exact ⟨restOf T n, fr ++ [frameOf T n], by have := unhide hlt; omega, by simp; omega, rfl, unhide hmore, unhide H1, unhide H2⟩
            case measure =>
              have := unhide hlt
              simp [strLen, bs_size]; omega

end Go.Proofs.Ytgpojbgjfibblaa.texts
