/-
  The walk of the document's Check (package gistref): a row of bits, pushed on bit by bit.
  Conditions: the width and what is mixed in are those of one of the three checks; the text has at most 1048576 bytes.
-/
import Derived.Test.YtgpojbgjfibblaaRefRows
namespace Go.Proofs.Ytgpojbgjfibblaa.bits
open Go.RowKit
set_option linter.unusedVariables false

set_option maxHeartbeats 1000000 in
set_option maxRecDepth 100000 in
theorem rcheck_gen (wd mix : Nat) (t s : ByteArray) (w : World) (hs : s.size ≤ 1048576) (hw0 : 0 < wd) (hw : wd ≤ 8) (hm : mix < 2 ^ wd) (ht : t.size = wd)
    (htb : ∀ k (h : k < t.size), ((t[k].toNat : Int) == 49) = mix.testBit k)
    (htaps : ∀ w, Calls Try.prog 82 #[.int .i64 wd] w fun e w' => e = .returned (.string t) ∧ w' = w) :
    Calls Try.prog 46 #[.int .i64 wd, .string s] w fun e w' => e = .returned (.int .i64 (plain.crcB mix (plain.startOf wd) (plain.bitsOf s.data.toList) : Nat)) ∧ Below w.heap.size w w' := by
  obtain ⟨i0, hi, hz0, hz1, hz2⟩ := info_parts infoB
  obtain ⟨B, hB⟩ : ∃ B, B = w.heap.size := ⟨_, rfl⟩
  rw [← hB]
  have HB := hide hB
  have HT := hide htaps
  have HTB := hide htb
  have Ht := hide ht
  have HM := hide hm
  clear hB htaps htb ht hm
  go_enter Try.func46, Try.ntmps46
  go_wp2_with (at_make; refine wpList_make_full _ rfl _ _ 157 rfl B 4 i0 (.bool false) 1 Try.underlying157 hi hz0 hz1 .i64 .i64 _ _ wd rfl rfl rfl rfl (by rw [hz2]; omega) (by unfold maxLen; omega) (by rw [unhide HB]; exact Nat.le_refl _) ?_; intro w1 hown1 hgrow1)
  obtain ⟨G, hG⟩ : ∃ G, G = w.heap.size := ⟨_, rfl⟩
  rw [← hG] at hown1 ⊢
  have hown1' : w1.ownsRow B 4 1 (sl G wd) wd (partL wd (plain.startOf wd) 0) := by
    rw [← partL_zero]
    rw [show (Value.bool false).cells = #[.bool false] from rfl, toList_madeCells_one, Nat.mul_one] at hown1
    exact hown1
  have hb1 : Below B w w1 := (Below.refl B w).grown hgrow1 (by rw [unhide HB]; exact Nat.le_refl _) (fun k hk => by cases hk)
  have hz : B ≤ w1.heap.size := by have := hgrow1.size; have := unhide HB; omega
  clear hown1 hgrow1 hG
  go_loopw [6] (fun i wr => ∃ k : Nat, k ≤ wd ∧ i = .int .i64 k ∧ wr.ownsRow B 4 1 (sl G wd) wd (partL wd (plain.startOf wd) k) ∧ Below B w wr ∧ B ≤ wr.heap.size) (fun i _ => wd - (intOf i).toNat)
  case atStart => exact ⟨0, Nat.zero_le _, rfl, hown1', hb1, hz⟩
  case round =>
    obtain ⟨k, hk, rfl, hown, hbel, hsz⟩ := hrel
    clear hown1' hb1 hz
    by_cases hlt : k < wd
    · have hcell := part_cell hlt hown
      have hfz := hown.frozenAt k
      have hst := hide (part_store hlt hown)
      have hge := hide (own_ge hown)
      have hbit := hide (start_bit wd k hlt)
      have HBL := hide hbel
      clear hown hbel
      go_wp2
      go_roundw
      case rel =>
        have e := unhide hst
        rw [unhide hbit] at e
        exact ⟨k + 1, by omega, by go_num, e, (unhide HBL).setCell (unhide hge).1 _, by simp; omega⟩
      case measure => simp [intOf]; omega
    · have e : wd = k := by omega
      subst e
      rw [partL_full] at hown
      have hown0 := hide hown
      have HBL := hide hbel
      clear hown hbel
      go_wp2_with (first | (go_at_call 82; refine (unhide HT _).mono ?_; rintro e w' ⟨rfl, rfl⟩) | (go_at_call 83; refine (rbits_any _ _ hs).mono ?_; rintro e w2 ⟨v, rfl, hownb, hbelb⟩))
      obtain ⟨ao, cap, rfl, hao⟩ := own_form hownb
      have hA := hide hao
      have o1 := own_below (unhide hown0) hbelb
      have o2 := own_base hownb hsz
      have o3 := (unhide HBL).trans (hbelb.mono hsz)
      have o4 : B ≤ w2.heap.size := Nat.le_trans hsz hbelb.size
      obtain ⟨L, hL⟩ : ∃ L, L = plain.bitsOf s.data.toList := ⟨_, rfl⟩
      rw [← hL] at o2
      have hlen : L.length = 8 * s.size := by rw [hL, plain.bitsOf_length]; simp
      have HL := hide hL
      have Hlen := hide hlen
      clear hownb hbelb hown0 HBL hao hL hlen HT
      go_loopw [5, 9] (fun r i wr => ∃ k g : Nat, k ≤ 8 * s.size ∧ i = .int .i64 k ∧ r = .slice (some ⟨g, 0, none⟩) wd wd ∧ wr.ownsRow B 4 1 (sl g wd) wd (rowL wd (plain.crcB mix (plain.startOf wd) (L.take k))) ∧
          wr.ownsRow B 4 1 (.slice ao (8 * s.size) cap) (8 * s.size) (L.map Value.bool) ∧ Below B w wr ∧ B ≤ wr.heap.size) (fun _ i _ => 8 * s.size - (intOf i).toNat)
      case atStart => exact ⟨0, G, Nat.zero_le _, rfl, rfl, by simpa [plain.crcB] using o1, o2, o3, o4⟩
      case round =>
        obtain ⟨k, g, hk, rfl, rfl, hrow, hbits, hbel, hsz2⟩ := hrel
        clear o1 o2 o3 o4
        by_cases hlt2 : k < 8 * s.size
        · obtain ⟨h, rfl, _⟩ := unhide hA (by omega)
          have hC := plain.crcB_lt wd mix (plain.startOf wd) (L.take k) (unhide HM) (by unfold plain.startOf; have := Nat.two_pow_pos wd; omega)
          have hnext := hide (crc_next mix (plain.startOf wd) L k (by rw [unhide Hlen]; exact hlt2))
          have HC := hide hC
          clear hC
          generalize plain.crcB mix (plain.startOf wd) (L.take k) = C at *
          have c1 := row_cell (k := 0) hw0 hrow
          have c2 : wr.cell? ⟨h, k, none⟩ = some (.bool (L[k]?.getD false)) := by
            rw [hbits.cellAt k (by omega), bits_at L k (by rw [unhide Hlen]; exact hlt2)]
          generalize L[k]?.getD false = b at *
          have HR := hide hrow
          have HBI := hide hbits
          have HBL := hide hbel
          clear hrow hbits hbel hA
          go_wp2_with fail
          go_quiet (fail)
          generalize hout : (!(tb C 0 == b)) = out
          have Hout := hide hout
          clear hout c1 c2
          go_wp2_with (at_make; refine wpList_make_full _ rfl _ _ 157 rfl B 4 i0 (.bool false) 1 Try.underlying157 hi hz0 hz1 .i64 .i64 _ _ wd rfl rfl rfl rfl (by rw [hz2]; omega) (by unfold maxLen; omega) (by simpa using hsz2) ?_; intro w3 hown3 hgrow3)
          obtain ⟨g2, hg2⟩ : ∃ g2, g2 = wr.heap.size := ⟨_, rfl⟩
          simp only [World.heap_drewN] at hown3
          rw [← hg2] at hown3 ⊢
          have lg := (own_ge (unhide HR)).2
          have lh : h < wr.heap.size := ((unhide HBI).lt h rfl).2
          have n1 : w3.ownsRow B 4 1 (sl g2 wd) wd (partL wd (plain.stepB mix C b) 0) := by
            rw [← partL_zero]
            rw [show (Value.bool false).cells = #[.bool false] from rfl, toList_madeCells_one, Nat.mul_one] at hown3
            exact hown3
          have n2 := (own_drewN (unhide HR) nq).kept hgrow3 (Or.inr (by simp [Value.ownBlock]))
          have n3 := (own_drewN (unhide HBI) nq).kept hgrow3 (Or.inr (by simp [Value.ownBlock]))
          have n4 : Below B w w3 := (below_drewN (unhide HBL) nq).grown hgrow3 (by simpa using hsz2) (fun k hk => by cases hk)
          have n5 : B ≤ w3.heap.size := by have := hgrow3.size; simp at this; omega
          have dg : g ≠ g2 := by omega
          have dh : h ≠ g2 := by omega
          have Dg := hide dg
          have Dh := hide dh
          clear hown3 hgrow3 HR HBI HBL hg2 lg lh dg dh hsz2
          go_loopw [12] (fun i wr => ∃ q : Nat, q ≤ wd ∧ i = .int .i64 q ∧ wr.ownsRow B 4 1 (sl g2 wd) wd (partL wd (plain.stepB mix C b) q) ∧ wr.ownsRow B 4 1 (sl g wd) wd (rowL wd C) ∧
            wr.ownsRow B 4 1 (.slice (some ⟨h, 0, none⟩) (8 * s.size) cap) (8 * s.size) (L.map Value.bool) ∧ Below B w wr ∧ B ≤ wr.heap.size) (fun i _ => wd - (intOf i).toNat)
          case atStart => exact ⟨0, Nat.zero_le _, rfl, n1, n2, n3, n4, n5⟩
          case round =>
            obtain ⟨q, hq, rfl, m1, m2, m3, m4, m5⟩ := hrel
            clear n1 n2 n3 n4 n5
            by_cases hq2 : q < wd
            · have hqt : q < t.size := by rw [unhide Ht]; exact hq2
              have NB := hide (next_bit wd mix C q b ((t[q].toNat : Int) == 49) (unhide HC) hq2 (unhide HTB q hqt))
              rw [unhide Hout] at NB
              have c4 := part_cell hq2 m1
              have c5 := m1.frozenAt q
              have M0 := hide (own_ge m1)
              have P := hide (fun x hx => part_put (x := x) hq2 m1 hx)
              have K2 := hide (fun x => ownsRow_setCell_other m2 (a := ⟨g2, q, none⟩) (by simp [Value.ownBlock]; exact unhide Dg) (.bool x))
              have K3 := hide (fun x => ownsRow_setCell_other m3 (a := ⟨g2, q, none⟩) (by simp [Value.ownBlock]; exact unhide Dh) (.bool x))
              have K4 := hide m4
              generalize hNN : plain.stepB mix C b = NN at *
              have HNN := hide hNN
              clear hNN
              by_cases hq3 : q + 1 < wd
              · have c3 := row_cell hq3 m2
                clear m1 m2 m3 m4
                cases out
                all_goals
                  go_wp2
                  go_roundw
                  case rel => exact ⟨q + 1, by omega, by go_num, unhide P _ (by rw [← unhide NB]; cases tb C (q + 1) <;> cases ((t[q].toNat : Int) == 49) <;> simp [hq3]), unhide K2 _, unhide K3 _, (unhide K4).setCell (unhide M0).1 _, by simp; omega⟩
                  case measure => simp [intOf]; omega
              · clear m1 m2 m3 m4
                cases out
                all_goals
                  go_wp2
                  go_roundw
                  case rel => exact ⟨q + 1, by omega, by go_num, unhide P _ (by rw [← unhide NB]; cases tb C (q + 1) <;> cases ((t[q].toNat : Int) == 49) <;> simp [hq3]), unhide K2 _, unhide K3 _, (unhide K4).setCell (unhide M0).1 _, by simp; omega⟩
                  case measure => simp [intOf]; omega
            · have e : wd = q := by omega
              subst e
              rw [partL_full, ← unhide hnext] at m1
              have M1 := hide m1
              have M3 := hide m3
              have M4 := hide m4
              clear m1 m2 m3 m4
              go_wp2
              go_roundw
              case rel => exact ⟨k + 1, g2, by omega, by go_num, rfl, unhide M1, unhide M3, unhide M4, m5⟩
              case measure => simp [intOf]; omega
        · have e : k = 8 * s.size := by omega
          rw [List.take_of_length_le (by rw [unhide Hlen]; omega), unhide HL] at hrow
          have hC := plain.crcB_lt wd mix (plain.startOf wd) (plain.bitsOf s.data.toList) (unhide HM) (by unfold plain.startOf; have := Nat.two_pow_pos wd; omega)
          have hle : (2 : Nat) ^ wd ≤ 256 := Nat.pow_le_pow_right (n := 2) (by decide) hw
          obtain ⟨C, hCe⟩ : ∃ C, C = plain.crcB mix (plain.startOf wd) (plain.bitsOf s.data.toList) := ⟨_, rfl⟩
          rw [← hCe] at hC hrow
          have HCe := hide hCe
          have HC := hide hC
          have HR := hide hrow
          have HBL := hide hbel
          have C0 : C < 256 := by omega
          clear hrow hbits hbel hA hC hle e hCe
          go_wp2_with fail
          go_loop [14, 15] (fun n i => ∃ q : Nat, q ≤ wd ∧ i = .int .i64 ((q : Int) - 1) ∧ n = .int .i64 (C / 2 ^ q : Nat)) (fun _ i => (intOf i + 1).toNat)
          case atStart => exact ⟨wd, Nat.le_refl _, rfl, by rw [Nat.div_eq_of_lt (unhide HC)]; rfl⟩
          case round =>
            obtain ⟨q, hq, rfl, rfl⟩ := hrel
            have hQ : C / 2 ^ q < 256 := Nat.lt_of_le_of_lt (Nat.div_le_self _ _) C0
            match q, hq, hQ with
            | 0, hq, hQ =>
              go_wp2
              go_ret
              exact ⟨ret_int (by first | (rw [← unhide HCe]; done) | (rw [← unhide HCe]; simp)), unhide HBL⟩
            | q + 1, hq, hQ =>
              have hst := hide (plain.top_step C q)
              have cc := row_cell (k := q) (by omega) (unhide HR)
              have eq1 : (((q + 1 : Nat) : Int) - 1) = (q : Int) := by omega
              rw [eq1]
              generalize C / 2 ^ (q + 1) = Y at *
              unfold tb at cc
              cases hbit : C.testBit q
              all_goals
                rw [hbit] at cc hst
                have Hbit := hide hbit
                clear hbit
                go_wp2
                go_round
                case rel => exact ⟨q, by omega, rfl, by rw [← unhide hst]; simp⟩
                case measure => first | (simp [intOf]; done) | (simp [intOf]; omega)

set_option maxHeartbeats 400000 in
set_option maxRecDepth 100000 in
theorem taps_3 (w : World) : Calls Try.prog 82 #[.int .i64 (3 : Nat)] w fun e w' => e = .returned (.string ⟨#[48, 49, 49]⟩) ∧ w' = w := by
  go_enter Try.func82, Try.ntmps82
  go_wp2
  go_ret
  exact ⟨rfl, rfl⟩
set_option maxHeartbeats 400000 in
set_option maxRecDepth 100000 in
theorem taps_7 (w : World) : Calls Try.prog 82 #[.int .i64 (7 : Nat)] w fun e w' => e = .returned (.string ⟨#[49, 48, 48, 49, 49, 49, 49]⟩) ∧ w' = w := by
  go_enter Try.func82, Try.ntmps82
  go_wp2
  go_ret
  exact ⟨rfl, rfl⟩
set_option maxHeartbeats 400000 in
set_option maxRecDepth 100000 in
theorem taps_8 (w : World) : Calls Try.prog 82 #[.int .i64 (8 : Nat)] w fun e w' => e = .returned (.string ⟨#[48, 48, 48, 48, 48, 49, 49, 49]⟩) ∧ w' = w := by
  go_enter Try.func82, Try.ntmps82
  go_wp2
  go_ret
  exact ⟨rfl, rfl⟩

theorem rcheck_any (wd : Nat) (s : ByteArray) (w : World) (hs : s.size ≤ 1048576) (h : wd = 3 ∨ wd = 7 ∨ wd = 8) :
    Calls Try.prog 46 #[.int .i64 wd, .string s] w fun e w' => e = .returned (.int .i64 (plain.checkOf wd s.data.toList : Nat)) ∧ Below w.heap.size w w' := by
  rcases h with rfl | rfl | rfl
  · exact rcheck_gen 3 6 ⟨#[48, 49, 49]⟩ s w hs (by decide) (by decide) (by decide) rfl (by decide) taps_3
  · exact rcheck_gen 7 121 ⟨#[49, 48, 48, 49, 49, 49, 49]⟩ s w hs (by decide) (by decide) (by decide) rfl (by decide) taps_7
  · exact rcheck_gen 8 224 ⟨#[48, 48, 48, 48, 48, 49, 49, 49]⟩ s w hs (by decide) (by decide) (by decide) rfl (by decide) taps_8

set_option maxHeartbeats 400000 in
set_option maxRecDepth 100000 in
theorem rcrc_any (wd : Int) (s : ByteArray) (w : World) (hs : s.size ≤ 1048576) :
    Calls Try.prog 14 #[.int .i64 wd, .string s] w fun e w' => e = .returned (.tuple #[.int .i64 (crcR wd s.data.toList), .int .i64 (crcE wd)]) ∧ Below w.heap.size w w' := by
  by_cases h : wd = 3 ∨ wd = 7 ∨ wd = 8
  · obtain ⟨n, rfl⟩ : ∃ n : Nat, wd = n := ⟨wd.toNat, by omega⟩
    have e1 := hide (show crcR n s.data.toList = (plain.checkOf n s.data.toList : Nat) by unfold crcR; rw [if_pos h]; simp)
    have e2 := hide (show crcE n = 0 by unfold crcE; rw [if_pos h])
    have hn : n = 3 ∨ n = 7 ∨ n = 8 := by omega
    clear h
    have Hn := hide hn
    rcases hn with rfl | rfl | rfl
    all_goals
      go_enter Try.func14, Try.ntmps14
      go_wp2_with (go_at_call 46; refine (rcheck_any _ _ _ hs (unhide Hn)).mono ?_; rintro e w' ⟨rfl, hb⟩)
      go_ret2
      exact ⟨ret_two (unhide e1).symm (unhide e2).symm, by assumption⟩
  · have e1 := hide (show crcR wd s.data.toList = 0 by unfold crcR; rw [if_neg h])
    have e2 := hide (show crcE wd = 1 by unfold crcE; rw [if_neg h])
    have h3 : (wd == 3) = false := by simp; omega
    have h7 : (wd == 7) = false := by simp; omega
    have h8 : (wd == 8) = false := by simp; omega
    have g3 : (wd != 3) = true := by simp; omega
    have g7 : (wd != 7) = true := by simp; omega
    have g8 : (wd != 8) = true := by simp; omega
    clear h
    go_enter Try.func14, Try.ntmps14
    go_wp2_with fail
    go_ret2
    exact ⟨ret_two (unhide e1).symm (unhide e2).symm, Below.refl _ _⟩

end Go.Proofs.Ytgpojbgjfibblaa.bits
