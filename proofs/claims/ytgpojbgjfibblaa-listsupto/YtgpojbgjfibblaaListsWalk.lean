/-
  The walk of the statement Lists (package gistlaw).
  Conditions stand in each theorem.
-/
import Derived.Test.YtgpojbgjfibblaaBookLooks
namespace Go.Proofs.Ytgpojbgjfibblaa.texts
open Go.RowKit
set_option linter.unusedVariables false
attribute [local go_sem] bs_size bs_append List.length_append bs_list bs_toList bs_extract

/-- a new book -/
theorem book_new (B : Nat) (w : World) (h : B ≤ w.heap.size) : BookAt B (w.alloc (.cells #[.slice none 0 0, .slice none 0 0, .slice none 0 0, .slice none 0 0, .int .i64 0] 70)) w.heap.size (.slice none 0 0) (.slice none 0 0) 0 [] :=
  ⟨heap_alloc_new w _, World.ownsRow_nil _ _ _ _, World.ownsRow_nil _ _ _ _, h, fun e he => by simp at he⟩

theorem own_low {w : World} {b1 b2 : Nat} {e : TypeId} {v : Value} {n : Nat} {xs : List Value} (h : w.ownsRow b1 e 1 v n xs) (hb : b2 ≤ b1) : w.ownsRow b2 e 1 v n xs := by
  refine ⟨h.1, ?_⟩
  rcases h.2 with h2 | ⟨g, cap, cur, hl, hg, r⟩
  · exact Or.inl h2
  · exact Or.inr ⟨g, cap, cur, hl, by omega, r⟩

/-- what is newly made lies apart from the book and its lists -/
theorem new_apart {B : Nat} {w w2 : World} {gB : Nat} {vT vN v : Value} {next : Int} {K : List (Value × List UInt8)} {e : TypeId} {n : Nat} {xs : List Value} (h : BookAt B w gB vT vN next K) (ho : w2.ownsRow w.heap.size e 1 v n xs) :
    ApartOf v gB vT vN ∧ ∀ e ∈ K, ∀ g, v.ownBlock = some g → e.1.ownBlock ≠ some g := by
  refine ⟨fun g hg => ?_, fun e he g hg h2 => ?_⟩
  · have h1 := (own_lt ho hg).1
    refine ⟨fun e => ?_, fun e => ?_, fun e => ?_⟩
    · have := block_lt h.blk; omega
    · have := (own_lt h.oT e).2; omega
    · have := (own_lt h.oN e).2; omega
  · have h1 := (own_lt ho hg).1
    have := (h.kept e he).1.lt h2
    omega

set_option maxRecDepth 100000 in
set_option maxHeartbeats 4000000 in
theorem lists_any (w : World) (v1 v2 : Value) (l1 l2 : List (List UInt8)) (ao1 ao2 : Option Addr) (b1 off1 cap1 b2 off2 cap2 : Nat) (hT1 : TextsAt w v1 l1 ao1 b1 off1 cap1) (hT2 : TextsAt w v2 l2 ao2 b2 off2 cap2) (hm1 : l1.length ≤ 1048576) (hm2 : l2.length ≤ 1048576)
    (hlen : ∀ i, i < l2.length → (l2[i]?.getD []).length ≤ 9223372036854775807) :
    Calls Try.prog 8 #[v1, v2] w fun e w' => e = .returned (.bool true) ∧ Below w.heap.size w w' := by
  have hjo := hide (joined_any w v1 l1 ao1 b1 off1 cap1 hT1 hm1)
  obtain ⟨rfl, ha2, hc2⟩ := hT2
  have HT : Hid (TextsAt w (.slice ao2 l2.length cap2) l2 ao2 b2 off2 cap2) := ⟨rfl, ha2, hc2⟩
  have HA := hide ha2
  have HLen := hide hlen
  clear hT1 ha2 hc2 hlen
  go_enter Try.func8, Try.ntmps8
  go_wp2_with fail
  refine (unhide hjo).mono ?_
  rintro e w1 ⟨rfl, hb1⟩
  have HB1 := hide hb1
  clear hb1 hjo
  go_wp2_with fail
  go_loopw [7] (fun i wr => ∃ (k : Nat) (next : Int) (vT vN : Value) (K : List (Value × List UInt8)), k ≤ l2.length ∧ i = .int .i64 k ∧ next = -(k : Int) ∧ K.length = 4 * k ∧ Shorts K ∧ BookAt w.heap.size wr w1.heap.size vT vN next K ∧ Below w.heap.size w wr) (fun i _ => l2.length - (intOf i).toNat)
  case atStart => exact ⟨0, 0, _, _, [], by omega, rfl, rfl, rfl, fun e he => by simp at he, book_new _ w1 (unhide HB1).size, (unhide HB1).alloc (unhide HB1).size _⟩
  case round =>
    obtain ⟨k, next, vT, vN, K, hk, rfl, hnx, hKl, hSh, hbook, hbel⟩ := hrel
    have HSh := hide hSh
    have HK := hide hbook
    have HB := hide hbel
    clear HB1 hSh
    by_cases hlt : k < l2.length
    · obtain rfl := unhide HA (by omega)
      have hc := ((unhide HT).keep hbel).cell k hlt
      have hf := unhide HLen k hlt
      have hz0 := hbel.size
      clear hbook hbel
      generalize l2[k]?.getD [] = f at hc hf
      go_wp2_with fail
      refine (gsplit_any f wr hf).mono ?_
      rintro e w2 ⟨va, rfl, hown2, hb2⟩
      obtain ⟨HAP, HKL⟩ := new_apart (unhide HK) hown2
      have AP := hide HAP
      have KL := hide HKL
      have HO2 := hide hown2
      have Hb2 := hide hb2
      have hc' := keep_cell hc hb2
      clear hc
      clear hown2 hb2 HAP HKL
      go_wp2_with fail
      refine (rsplit_any f w2 hf).mono ?_
      rintro e w3 ⟨vd, rfl, hown3, hb3⟩
      have HO3 := hide hown3
      have Hb3 := hide hb3
      clear hown3 hb3
      obtain ⟨aoA, bA, cA, hA⟩ := own_texts (own_keep (unhide HO2) (unhide Hb3))
      obtain ⟨aoD, bD, cD, hD⟩ := own_texts (unhide HO3)
      have HsA := hide hA
      have HsD := hide hD
      clear hA hD
      have h8 := split_le f
      go_wp2_with fail
      refine (same_eq w3 va vd (splitR f) aoA aoD bA 0 cA bD 0 cD (unhide HsA) (unhide HsD) (by omega)).mono ?_
      rintro e w4 ⟨rfl, hb4⟩
      have Hb4 := hide hb4
      clear hb4
      go_wp2_with (go_at_call 17; refine (bits.num_any _ _).mono ?_; rintro e w5 ⟨rfl, rfl⟩)
      have hs2 := (unhide Hb2).size
      have K4 := hide ((((unhide HK).grew (unhide Hb2)).grew (unhide Hb3)).grew (unhide Hb4))
      have O4 := hide (own_low (own_keep (own_keep (unhide HO2) (unhide Hb3)) (unhide Hb4)) hz0)
      have B4 := hide (grew_call (grew_call (grew_call (unhide HB) (unhide Hb2)) (unhide Hb3)) (unhide Hb4))
      clear HK HO2 HO3 HB Hb2 Hb3 Hb4 HsA HsD
      refine (holds_any w.heap.size _ w1.heap.size vT vN next K va (splitR f).length _ (unhide K4) (by omega) (by omega) (by omega) (unhide O4) h8 (unhide AP) (unhide KL)).mono ?_
      rintro e w6 ⟨rfl, vT6, vN6, K6, hb6, hl6, hS6, hbel6⟩
      have HS6 := hide (hS6 (unhide HSh))
      have HK6 := hide hb6
      have HB6 := hide ((unhide B4).trans hbel6)
      clear hb6 hS6 hbel6 K4 O4 B4 AP KL HSh
      go_wp2_with fail
      refine (looks_any w.heap.size w6 w1.heap.size vT6 vN6 (next - 1) K6 (unhide HK6) (unhide HS6) (by omega)).mono ?_
      rintro e w7 ⟨rfl, hb7⟩
      have HK7 := hide ((unhide HK6).grew hb7)
      have HB7 := hide (grew_call (unhide HB6) hb7)
      clear hb7 HK6 HB6
      go_wp2
      go_roundw
      case rel => exact ⟨k + 1, next - 1, vT6, vN6, K6, by omega, by go_num, by omega, by omega, unhide HS6, unhide HK7, unhide HB7⟩
      case measure => simp [intOf]; omega
    · have e : k = l2.length := by omega
      subst e
      clear hbook hbel
      go_wp2_with fail
      go_ret
      exact ⟨rfl, unhide HB⟩

end Go.Proofs.Ytgpojbgjfibblaa.texts
