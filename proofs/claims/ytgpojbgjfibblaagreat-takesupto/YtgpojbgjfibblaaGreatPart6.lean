/-
  The walk of the statement Again (package gistkeep). The walks of copied, sameTexts and joined (package gistlaw).
  Conditions stand in each theorem.
-/
import Derived.Test.YtgpojbgjfibblaaGreatPart5
namespace Go.Proofs.YtgpojbgjfibblaaGreat.texts
open Go.RowKit
set_option linter.unusedVariables false
attribute [local go_sem] bs_size bs_append List.length_append bs_list bs_toList bs_extract

/-- what a call owns reads as a list of texts -/
theorem own_texts {w : World} {base : Nat} {v : Value} {ls : List (List UInt8)} (h : w.ownsRow base 9 1 v ls.length (strs ls)) : ∃ ao b cap, TextsAt w v ls ao b 0 cap := by
  rcases h.2 with ⟨rfl, hn⟩ | ⟨g, cap, cur, rfl, hb, hg, hnc, hcm, hcs, htake⟩
  · refine ⟨none, 0, 0, by rw [hn], fun h0 => by omega, fun i hi => by omega⟩
  · refine ⟨some ⟨g, 0, none⟩, g, cap, rfl, fun _ => rfl, fun i hi => ?_⟩
    rw [Nat.zero_add, h.cellAt i (by omega)]
    simp [strs, List.getElem?_map, List.getElem?_eq_getElem hi]

/-- frames cut to their bound, at most k -/
def cutL (ls : List (List UInt8)) (k : Nat) : List (List UInt8) := (ls.take k).map (·.take 300)
theorem cutL_length (ls : List (List UInt8)) (k : Nat) (h : k ≤ ls.length) : (cutL ls k).length = k := by simp [cutL]; omega
theorem cutL_succ (ls : List (List UInt8)) (k : Nat) (h : k < ls.length) : cutL ls (k + 1) = cutL ls k ++ [(ls[k]?.getD []).take 300] := by
  unfold cutL
  rw [List.take_succ_eq_append_getElem h, List.getElem?_eq_getElem h, List.map_append]
  rfl
theorem cutL_short (ls : List (List UInt8)) (k : Nat) : ∀ f ∈ cutL ls k, f.length ≤ 300 := by
  intro f hf
  simp only [cutL, List.mem_map] at hf
  obtain ⟨g, _, rfl⟩ := hf
  simp; omega

theorem lit_texts (w : World) : TextsAt (w.alloc (.cells #[.string ⟨#[97]⟩, .string ⟨#[]⟩] 9)) (.slice (some ⟨w.heap.size, 0, none⟩) 2 2) [[97], []] (some ⟨w.heap.size, 0, none⟩) w.heap.size 0 2 := by
  refine ⟨rfl, fun _ => rfl, fun i hi => ?_⟩
  rw [Nat.zero_add, block_cell (heap_alloc_new w _) i]
  match i, hi with
  | 0, _ => rfl
  | 1, _ => rfl
theorem lit_joinR : joinR [[97], []] = [1, 97, 0] := by decide
theorem lit_joinE : joinE [[97], []] = 0 := by decide
theorem split_le (s : List UInt8) : (splitR s).length ≤ 8 := by
  unfold splitR
  cases e : splitL 8 s with
  | none => simp
  | some fr => exact (join_split 8 s fr e).2.1

end Go.Proofs.YtgpojbgjfibblaaGreat.texts

namespace Go.Proofs.YtgpojbgjfibblaaGreat.texts
open Go.RowKit
set_option linter.unusedVariables false
attribute [local go_sem] bs_size bs_append List.length_append bs_list bs_toList bs_extract

set_option maxRecDepth 100000 in
set_option maxHeartbeats 1000000 in
theorem copied_any (w : World) (v : Value) (ls : List (List UInt8)) (ao : Option Addr) (b off cap : Nat) (hT : TextsAt w v ls ao b off cap) (hmax : ls.length ≤ 1048576) :
    Calls Tryz.prog 61 #[v] w fun e w' => ∃ v', e = .returned v' ∧ w'.ownsRow w.heap.size 9 1 v' ls.length (strs ls) ∧ Below w.heap.size w w' := by
  obtain ⟨i0, hi, hz0, hz1, hz2⟩ := info_parts infoS
  obtain ⟨rfl, haddr, hcell⟩ := hT
  have HA := hide haddr
  have HT : Hid (TextsAt w (.slice ao ls.length cap) ls ao b off cap) := ⟨rfl, haddr, hcell⟩
  clear haddr hcell
  go_enter Tryz.func61, Tryz.ntmps61
  go_wp2_with fail
  go_loopw [3, 4] (fun m i wr => ∃ k : Nat, k ≤ ls.length ∧ i = .int .i64 k ∧ wr.ownsRow w.heap.size 9 1 m (ls.take k).length (strs (ls.take k)) ∧ Below w.heap.size w wr) (fun _ i _ => ls.length - (intOf i).toNat)
  case atStart => exact ⟨0, by omega, rfl, World.ownsRow_nil _ _ _ _, Below.refl _ _⟩
  case round =>
    obtain ⟨k, hk, rfl, hown, hbel⟩ := hrel
    by_cases hlt : k < ls.length
    · obtain rfl := unhide HA (by omega)
      have hc := ((unhide HT).keep hbel).cell k hlt
      have hnext := hide (take_next hlt)
      have hcl : (ls.take k).length ≤ 1048576 := by simp; omega
      have HB := hide hbel
      have hzw : w.heap.size ≤ wr.heap.size := hbel.size
      clear hbel
      generalize ls[k]?.getD [] = f at *
      generalize hTT : ls.take k = T at *
      clear hTT
      go_wp2_with (at_builtin; refine wpList_append_own _ rfl _ _ 29 rfl w.heap.size 9 i0 (.string ⟨#[]⟩) 1 16 Tryz.underlying29 hi hz0 hz1 hz2 rfl (by decide) _ _ _ rfl (hown.alloc _) ⟨wr.heap.size, 0, none⟩ 1 1 [.string (bs f)] rfl rfl ?c1 ?c2 ?c3 ?c4 ?c5 ?_)
      case c2 => first | (intro u hu; simp at hu; subst hu; rfl) | rfl | (simp; done)
      case c3 => unfold maxLen; omega
      case c4 => omega
      case c5 => first | omega | (simp; omega)
      · intro v' w3 hown3 hgrow3 _
        obtain ⟨R1, R2⟩ := own_more (unhide HB) hzw hown hown3 hgrow3
        have H1 := hide R1
        have H2 := hide R2
        clear hown hown3 hgrow3 HB R1 R2
        go_wp2
        go_roundw
        case rel => exact ⟨k + 1, by omega, by go_num, by rw [unhide hnext]; exact unhide H1, unhide H2⟩
        case measure => simp [intOf]; omega
    · have e : k = ls.length := by omega
      subst e
      rw [List.take_length] at hown
      have HO := hide hown
      have HB := hide hbel
      clear hown hbel
      go_wp2_with fail
      go_ret
      exact ⟨_, rfl, unhide HO, unhide HB⟩

set_option maxRecDepth 100000 in
set_option maxHeartbeats 1000000 in
theorem same_eq (w : World) (v1 v2 : Value) (ls : List (List UInt8)) (ao1 ao2 : Option Addr) (b1 off1 cap1 b2 off2 cap2 : Nat) (hT1 : TextsAt w v1 ls ao1 b1 off1 cap1) (hT2 : TextsAt w v2 ls ao2 b2 off2 cap2) (hmax : ls.length ≤ 9223372036854775807) :
    Calls Tryz.prog 39 #[v1, v2] w fun e w' => e = .returned (.bool true) ∧ Below w.heap.size w w' := by
  obtain ⟨rfl, ha1, hc1⟩ := hT1
  obtain ⟨rfl, ha2, hc2⟩ := hT2
  have HM1 : Hid (TextsAt w (.slice ao1 ls.length cap1) ls ao1 b1 off1 cap1) := ⟨rfl, ha1, hc1⟩
  have HM2 : Hid (TextsAt w (.slice ao2 ls.length cap2) ls ao2 b2 off2 cap2) := ⟨rfl, ha2, hc2⟩
  clear ha1 hc1 ha2 hc2
  go_enter Tryz.func39, Tryz.ntmps39
  go_wp2_with fail
  go_loopw [5] (fun i wr => ∃ j : Nat, j ≤ ls.length ∧ i = .int .i64 j ∧ TextsAt wr (.slice ao1 ls.length cap1) ls ao1 b1 off1 cap1 ∧ TextsAt wr (.slice ao2 ls.length cap2) ls ao2 b2 off2 cap2 ∧ Below w.heap.size w wr) (fun i _ => ls.length - (intOf i).toNat)
  case atStart => exact ⟨0, Nat.zero_le _, rfl, unhide HM1, unhide HM2, Below.refl _ _⟩
  case round =>
    obtain ⟨j, hj, rfl, t1, t2, hbel⟩ := hrel
    clear HM1 HM2
    by_cases hlt : j < ls.length
    · obtain rfl := t1.addr (by omega)
      obtain rfl := t2.addr (by omega)
      have cA := t1.cell j hlt
      have cB := t2.cell j hlt
      have T1 := hide t1
      have T2 := hide t2
      have HB := hide hbel
      clear t1 t2 hbel
      generalize ls[j]?.getD [] = f at cA cB
      go_wp2_with fail
      go_quiet (fail)
      all_goals go_wp2
      all_goals go_roundw
      case rel => exact ⟨j + 1, by omega, by go_num, ⟨rfl, fun _ => rfl, (unhide T1).cell⟩, ⟨rfl, fun _ => rfl, (unhide T2).cell⟩, below_drewN (unhide HB) _⟩
      case measure => simp [intOf]; omega
    · have HB := hide hbel
      clear t1 t2 hbel
      go_wp2_with fail
      go_ret
      exact ⟨rfl, unhide HB⟩

set_option maxHeartbeats 1000000 in
theorem joined_any (w : World) (v : Value) (ls : List (List UInt8)) (ao : Option Addr) (b off cap : Nat) (hT : TextsAt w v ls ao b off cap) (hmax : ls.length ≤ 1048576) :
    Calls Tryz.prog 35 #[v] w fun e w' => e = .returned (.bool true) ∧ Below w.heap.size w w' := by
  have HT := hide hT
  have hcp := hide (copied_any w v ls ao b off cap hT hmax)
  clear hT
  go_enter Tryz.func35, Tryz.ntmps35
  go_wp2_with fail
  refine (unhide hcp).mono ?_
  rintro e w1 ⟨v1, rfl, hown1, hb1⟩
  obtain ⟨ao1, b1, cap1, hM1⟩ := own_texts hown1
  have HM1 := hide hM1
  clear hown1 hM1 hcp
  go_wp2_with fail
  refine (gjoin_any _ _ _ _ _ _ _ (unhide HM1) (by omega)).mono ?_
  rintro e w2 ⟨rfl, hb2⟩
  go_wp2_with fail
  refine (rjoin_any _ _ _ _ _ _ _ (((unhide HT).keep hb1).keep hb2) (by omega)).mono ?_
  rintro e w3 ⟨rfl, hb3⟩
  go_wp2_with fail
  refine (same_eq _ _ _ ls _ _ _ _ _ _ _ _ ((((unhide HT).keep hb1).keep hb2).keep hb3) (((unhide HM1).keep hb2).keep hb3) (by omega)).mono ?_
  rintro e w4 ⟨rfl, hb4⟩
  have HB := hide (grew_call (grew_call (grew_call hb1 hb2) hb3) hb4)
  clear hb1 hb2 hb3 hb4 HT HM1
  go_wp2_with (go_at_call 13; refine (bits.num_any _ _).mono ?_; rintro e w5 ⟨rfl, rfl⟩)
  go_ret
  exact ⟨by simp, unhide HB⟩

end Go.Proofs.YtgpojbgjfibblaaGreat.texts
