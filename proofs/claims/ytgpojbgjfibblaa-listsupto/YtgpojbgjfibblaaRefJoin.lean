/-
  Lists of texts in memory; the walks of the document's told and Join (package gistref).
  Conditions stand in each theorem.
-/
import Derived.Test.YtgpojbgjfibblaaFrames
import Derived.Test.YtgpojbgjfibblaaHeads
import Derived.Test.YtgpojbgjfibblaaBlocks
namespace Go.Proofs.Ytgpojbgjfibblaa.texts
open Go.RowKit
set_option linter.unusedVariables false
attribute [local go_sem ↓] Go.wp_at_zero Go.wp_at_succ
attribute [local go_sem] bs_size bs_append List.length_append bs_list bs_toList

/-- a slice value reads as a list of texts -/
structure TextsAt (w : World) (v : Value) (ls : List (List UInt8)) (ao : Option Addr) (b off cap : Nat) : Prop where
  form : v = .slice ao ls.length cap
  addr : 0 < ls.length → ao = some ⟨b, off, none⟩
  cell : ∀ i, i < ls.length → w.cell? ⟨b, off + i, none⟩ = some (.string (bs (ls[i]?.getD [])))
theorem TextsAt.lt {w : World} {v : Value} {ls : List (List UInt8)} {ao : Option Addr} {b off cap : Nat} (h : TextsAt w v ls ao b off cap) (hn : 0 < ls.length) : b < w.heap.size := by
  have h1 := h.cell 0 hn
  by_cases h2 : b < w.heap.size
  · exact h2
  · simp [World.cell?, Array.getElem?_eq_none (Nat.le_of_not_lt h2)] at h1
theorem TextsAt.keep {w w2 : World} {v : Value} {ls : List (List UInt8)} {ao : Option Addr} {b off cap : Nat} (h : TextsAt w v ls ao b off cap) (hb : Below w.heap.size w w2) : TextsAt w2 v ls ao b off cap :=
  ⟨h.form, h.addr, fun i hi => by rw [hb.cell (p := ⟨b, off + i, none⟩) (h.lt (by omega))]; exact h.cell i hi⟩

set_option maxRecDepth 100000 in
set_option maxHeartbeats 400000 in
theorem told_any (n : Int) (w : World) (h0 : 0 ≤ n) (h1 : n ≤ 32767) :
    Calls Try.prog 95 #[.int .i64 n] w fun e w' => e = .returned (.string (bs (toldL n.toNat))) ∧ Below w.heap.size w w' := by
  obtain ⟨n, rfl⟩ := Int.eq_ofNat_of_zero_le h0
  rw [Int.toNat_natCast]
  by_cases h : n < 128
  · have e := hide (show toldL n = be n 1 by unfold toldL; rw [if_pos h])
    go_enter Try.func95, Try.ntmps95
    go_wp2_with (go_at_call 58; refine (bytes_any _ _ _ (by omega) (by omega) (by omega) (by omega)).mono ?_; rintro e w' ⟨rfl, hbel⟩)
    go_ret
    exact ⟨ret_str (by rw [unhide e]), hbel⟩
  · have e := hide (show toldL n = be (32768 + n) 2 by unfold toldL; rw [if_neg h])
    go_enter Try.func95, Try.ntmps95
    go_wp2_with (go_at_call 58; refine (bytes_any _ _ _ (by omega) (by omega) (by omega) (by omega)).mono ?_; rintro e w' ⟨rfl, hbel⟩)
    go_ret
    exact ⟨ret_str (by rw [unhide e, show (32768 + (n : Int)).toNat = 32768 + n by omega]), hbel⟩

theorem ret_si' {a b : ByteArray} {c d : Int} (h : a = b) (g : c = d) : Ending.returned (.tuple #[.string a, .int .i64 c]) = .returned (.tuple #[.string b, .int .i64 d]) := by rw [h, g]

theorem joinE_many {ls : List (List UInt8)} (h : 8 < ls.length) : joinE ls = 3 ∧ joinR ls = [] := by
  have e : joinE ls = 3 := by unfold joinE; rw [if_pos h]
  exact ⟨e, by unfold joinR; rw [if_neg (by rw [e]; decide)]⟩
theorem joinE_long {ls : List (List UInt8)} (h : ¬ 8 < ls.length) {k : Nat} (hk : k < ls.length) (hl : 300 < (ls[k]?.getD []).length) : joinE ls = 2 ∧ joinR ls = [] := by
  have hm : longOne ls = true := by
    unfold longOne
    rw [List.any_eq_true]
    refine ⟨ls[k], List.getElem_mem hk, ?_⟩
    rw [List.getElem?_eq_getElem hk] at hl
    simpa using hl
  have e : joinE ls = 2 := by unfold joinE; rw [if_neg h, if_pos hm]
  exact ⟨e, by unfold joinR; rw [if_neg (by rw [e]; decide)]⟩
theorem joinE_good {ls : List (List UInt8)} (h : ¬ 8 < ls.length) (hl : ∀ f ∈ ls, f.length ≤ 300) : joinE ls = 0 ∧ joinR ls = joinL ls := by
  have hm : longOne ls = false := by
    unfold longOne
    rw [List.any_eq_false]
    intro f hf
    have := hl f hf
    simp; omega
  have e : joinE ls = 0 := by unfold joinE; rw [if_neg h, if_neg (by rw [hm]; decide)]
  exact ⟨e, by unfold joinR; rw [if_pos e]⟩
theorem take_next {ls : List (List UInt8)} {k : Nat} (hk : k < ls.length) : ls.take (k + 1) = ls.take k ++ [ls[k]?.getD []] := by
  rw [List.take_succ_eq_append_getElem hk, List.getElem?_eq_getElem hk]; rfl

set_option maxHeartbeats 1000000 in
theorem rjoin_any (w : World) (v : Value) (ls : List (List UInt8)) (ao : Option Addr) (b off cap : Nat) (hT : TextsAt w v ls ao b off cap) (hmax : ls.length ≤ 9223372036854775807) :
    Calls Try.prog 64 #[v] w fun e w' => e = .returned (.tuple #[.string (bs (joinR ls)), .int .i64 (joinE ls)]) ∧ Below w.heap.size w w' := by
  obtain ⟨rfl, haddr, hcell⟩ := hT
  by_cases hmany : 8 < ls.length
  · have e := hide (joinE_many hmany)
    clear haddr hcell
    go_enter Try.func64, Try.ntmps64
    go_wp2_with fail
    go_ret2
    exact ⟨ret_si' (by rw [(unhide e).2]; rfl) (unhide e).1.symm, Below.refl _ _⟩
  · have HA := hide haddr
    have HC := hide hcell
    have HT : Hid (TextsAt w (.slice ao ls.length cap) ls ao b off cap) := ⟨rfl, haddr, hcell⟩
    clear haddr hcell
    go_enter Try.func64, Try.ntmps64
    go_wp2_with fail
    go_loopw [4, 5] (fun s i wr => ∃ k : Nat, k ≤ ls.length ∧ i = .int .i64 k ∧ s = .string (bs (joinL (ls.take k))) ∧ (∀ f ∈ ls.take k, f.length ≤ 300) ∧ Below w.heap.size w wr) (fun _ i _ => ls.length - (intOf i).toNat)
    case atStart => exact ⟨0, Nat.zero_le _, rfl, rfl, by simp, Below.refl _ _⟩
    case round =>
      obtain ⟨k, hk, rfl, rfl, hsh, hbel⟩ := hrel
      have Hsh := hide hsh
      have HB := hide hbel
      clear hsh hbel
      by_cases hlt : k < ls.length
      · obtain rfl := unhide HA (by omega)
        have hc := ((unhide HT).keep (unhide HB)).cell k hlt
        have hnext := hide (take_next hlt)
        have hJ := joinL_length (ls.take k) (unhide Hsh)
        have hJ2 : (ls.take k).length ≤ 8 := by simp; omega
        by_cases hlong : 300 < (ls[k]?.getD []).length
        · have e := hide (joinE_long hmany hlt hlong)
          generalize hf : ls[k]?.getD [] = f at *
          clear hf
          go_wp2_with fail
          go_ret2
          exact ⟨ret_si' (by rw [(unhide e).2]; rfl) (unhide e).1.symm, unhide HB⟩
        · generalize hf : ls[k]?.getD [] = f at *
          have Hf := hide hf
          have hT2 := toldL_le f.length
          generalize hA : joinL (ls.take k) = A at *
          have HAA := hide hA
          clear hf hA
          have hA2 : A.length ≤ 2416 := by omega
          have hn1 : ¬ 9223372036854775807 < A.length + (toldL f.length).length := by omega
          have hn2 : ¬ 9223372036854775807 < A.length + (toldL f.length).length + f.length := by omega
          have hn3 : ¬ 9223372036854775807 < A.length + ((toldL f.length).length + f.length) := by omega
          have hk0 : (0 : Int) ≤ (k : Int) := by omega
          have hk1 : (k : Int) < (ls.length : Int) := by omega
          go_wp2_with fail
          go_region_held3 (fun w' => w'.cell? ⟨b, off + k, none⟩ = some (.string (bs f)) ∧ Below w.heap.size w w')
            (first | exact ⟨hc, (unhide HB).drew⟩ | (go_split_ands; exact ⟨keep_cell (by assumption) hbel, grew_call (by assumption) hbel⟩))
            ((go_at_call 95; refine (told_any _ _ (by omega) (by omega)).mono ?_; rintro e w' ⟨rfl, hbel⟩))
          all_goals go_split_ands
          all_goals
            have HB' := hide (show Below w.heap.size w w' by assumption)
            go_wp2
            go_roundw
            case rel =>
              refine ⟨k + 1, by omega, by go_num, ?_, ?_, unhide HB'⟩
              · rw [unhide hnext, joinL_snoc, unhide HAA]
              · rw [unhide hnext]
                intro g hg
                rcases List.mem_append.1 hg with hg | hg
                · exact unhide Hsh g hg
                · simp at hg; subst hg; omega
            case measure => simp [intOf]; omega
      · have e : k = ls.length := by omega
        subst e
        have Hsh2 := unhide Hsh
        rw [List.take_length] at Hsh2
        have e := hide (joinE_good hmany Hsh2)
        clear Hsh2
        go_wp2_with fail
        go_ret2
        exact ⟨ret_si' (by rw [(unhide e).2, List.take_length]) (unhide e).1.symm, unhide HB⟩

end Go.Proofs.Ytgpojbgjfibblaa.texts
