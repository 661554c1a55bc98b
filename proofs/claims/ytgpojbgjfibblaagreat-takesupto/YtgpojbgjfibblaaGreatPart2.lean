/-
  Rows of bits in memory: what each step of the document's check does to them. The walk of the document's Check (package gistref): a row of bits, pushed on bit by bit. Texts as lists of bytes; the walks of the document's Bytes and Number (package gistref). The walks of the document's Head, Rest and Header (package gistref). Packets as values and as texts; the walks of the document's Rest, Header, Flatten, Packet, RouteOf, With (package gistref).
  Conditions stand in each theorem.
-/
import Derived.Test.YtgpojbgjfibblaaGreatPart1
import Derived.Deep.QuietTactic
import Derived.BigQuiet
import Derived.Test.YtgpojbgjfibblaaGreatProg
import Derived.WalkKit
import Derived.WalkSpells
import Derived.WalkLawsBesides
import Derived.Deep.RegionHeld3
import Derived.Deep.DrawnRows
namespace Go.Proofs.YtgpojbgjfibblaaGreat.bits
open Go.RowKit
set_option linter.unusedVariables false

/-- a bit of a number, under a name that nothing lays open -/
def tb (c i : Nat) : Bool := c.testBit i
/-- a row of bits; the same with the first k alone -/
def rowL (wd c : Nat) : List Value := (List.range wd).map fun i => .bool (tb c i)
def partL (wd c k : Nat) : List Value := (List.range wd).map fun i => .bool (decide (i < k) && tb c i)

theorem partL_length (wd c k : Nat) : (partL wd c k).length = wd := by simp [partL]
theorem rowL_length (wd c : Nat) : (rowL wd c).length = wd := by simp [rowL]
theorem partL_zero (wd c : Nat) : List.replicate wd (Value.bool false) = partL wd c 0 := by
  refine List.ext_getElem (by simp [partL]) fun i h1 h2 => ?_
  simp [partL]
theorem partL_full (wd c : Nat) : partL wd c wd = rowL wd c := by
  refine List.ext_getElem (by simp [partL, rowL]) fun i h1 h2 => ?_
  have h : i < wd := by simpa [rowL] using h2
  simp [partL, rowL, h]
theorem partL_set (wd c k : Nat) (hk : k < wd) : (partL wd c k).set k (.bool (tb c k)) = partL wd c (k + 1) := by
  refine List.ext_getElem (by simp [partL]) fun i h1 h2 => ?_
  rw [List.getElem_set]
  simp only [partL, List.getElem_map, List.getElem_range]
  by_cases h : k = i
  · subst h; simp
  · rw [if_neg h]
    by_cases h3 : i < k
    · simp [h3, show i < k + 1 by omega]
    · simp [h3, show ¬ i < k + 1 by omega]
theorem rowL_at (wd c k : Nat) (hk : k < wd) : (rowL wd c)[k]? = some (.bool (tb c k)) := by
  rw [List.getElem?_eq_getElem (by simp [rowL]; exact hk)]; simp [rowL]
theorem partL_at (wd c j k : Nat) (hk : k < wd) : (partL wd c j)[k]? = some (.bool (decide (k < j) && tb c k)) := by
  rw [List.getElem?_eq_getElem (by simp [partL]; exact hk)]; simp [partL]

/-- a slice value over its own block -/
abbrev sl (g wd : Nat) : Value := .slice (some ⟨g, 0, none⟩) wd wd

theorem own_form {w : World} {base : Nat} {e : TypeId} {v : Value} {n : Nat} {xs : List Value} (h : w.ownsRow base e 1 v n xs) :
    ∃ ao cap, v = .slice ao n cap ∧ (0 < n → ∃ g, ao = some ⟨g, 0, none⟩ ∧ g < w.heap.size) := by
  rcases h.2 with ⟨rfl, rfl⟩ | ⟨g, cap, cur, rfl, hb, hg, r⟩
  · exact ⟨none, 0, rfl, fun h => absurd h (by omega)⟩
  · refine ⟨some ⟨g, 0, none⟩, cap, rfl, fun _ => ⟨g, rfl, ?_⟩⟩
    exact (Array.getElem?_eq_some_iff.1 hg).1

/-- what is owned does not depend on the draws -/
theorem own_drewN {w : World} {base : Nat} {e : TypeId} {size : Nat} {v : Value} {n : Nat} {xs : List Value} (h : w.ownsRow base e size v n xs) (m : Nat) : (w.drewN m).ownsRow base e size v n xs := h

theorem own_below {w w2 : World} {base : Nat} {e : TypeId} {size : Nat} {v : Value} {n : Nat} {xs : List Value} (h : w.ownsRow base e size v n xs) (hb : Below w.heap.size w w2) : w2.ownsRow base e size v n xs := by
  refine ⟨h.1, ?_⟩
  rcases h.2 with h2 | ⟨g, cap, cur, hv, hg, hh, r⟩
  · exact Or.inl h2
  · exact Or.inr ⟨g, cap, cur, hv, hg, by rw [hb.block g (Array.getElem?_eq_some_iff.1 hh).1]; exact hh, r⟩
theorem own_base {w : World} {base base2 : Nat} {e : TypeId} {size : Nat} {v : Value} {n : Nat} {xs : List Value} (h : w.ownsRow base e size v n xs) (hb : base2 ≤ base) : w.ownsRow base2 e size v n xs := by
  refine ⟨h.1, ?_⟩
  rcases h.2 with h2 | ⟨g, cap, cur, hv, hg, r⟩
  · exact Or.inl h2
  · exact Or.inr ⟨g, cap, cur, hv, by omega, r⟩

section
variable {w wr : World} {B g wd c k : Nat}

/-- a bit is stored -/
theorem part_store (hk : k < wd) (h : wr.ownsRow B 4 1 (sl g wd) wd (partL wd c k)) :
    (wr.setCell ⟨g, k, none⟩ (.bool (tb c k))).ownsRow B 4 1 (sl g wd) wd (partL wd c (k + 1)) := by
  have e := (h.stored k (.bool (tb c k))).1
  rw [partL_set wd c k hk] at e
  exact e
theorem part_put (hk : k < wd) (h : wr.ownsRow B 4 1 (sl g wd) wd (partL wd c k)) {x : Bool} (hx : x = tb c k) :
    (wr.setCell ⟨g, k, none⟩ (.bool x)).ownsRow B 4 1 (sl g wd) wd (partL wd c (k + 1)) := by
  rw [hx]; exact part_store hk h
theorem own_ge {xs : List Value} (h : wr.ownsRow B 4 1 (sl g wd) wd xs) : B ≤ g ∧ g < wr.heap.size := h.lt g rfl
theorem part_cell (hk : k < wd) {j : Nat} (h : wr.ownsRow B 4 1 (sl g wd) wd (partL wd c j)) : wr.cell? ⟨g, k, none⟩ = some (.bool (decide (k < j) && tb c k)) := by
  rw [h.cellAt k (by omega), partL_at wd c j k hk]
theorem row_cell (hk : k < wd) (h : wr.ownsRow B 4 1 (sl g wd) wd (rowL wd c)) : wr.cell? ⟨g, k, none⟩ = some (.bool (tb c k)) := by
  rw [h.cellAt k (by omega), rowL_at wd c k hk]
end

theorem bits_at (l : List Bool) (i : Nat) (h : i < l.length) : (l.map Value.bool)[i]? = some (.bool (l[i]?.getD false)) := by
  rw [List.getElem?_map, List.getElem?_eq_getElem h]; rfl

theorem start_bit (wd k : Nat) (h : k < wd) : tb (plain.startOf wd) k = true := by
  unfold tb
  unfold plain.startOf; rw [Nat.testBit_two_pow_sub_one]; simp [h]

/-- the next bit of the row -/
theorem next_bit (wd mix c k : Nat) (b : Bool) (t1 : Bool) (hc : c < 2 ^ wd) (hk : k < wd) (ht : t1 = mix.testBit k) :
    ((decide (k + 1 < wd) && tb c (k + 1)) != ((!(tb c 0 == b)) && t1)) = tb (plain.stepB mix c b) k := by
  unfold tb
  show ((decide (k + 1 < wd) && c.testBit (k + 1)) != ((c.testBit 0 != b) && t1)) = _
  rw [plain.stepB_testBit, ht]
  by_cases h : k + 1 < wd
  · simp [h]
  · have e : c.testBit (k + 1) = false := Nat.testBit_lt_two_pow (Nat.lt_of_lt_of_le hc (Nat.pow_le_pow_right (by decide) (by omega)))
    simp [h, e]

theorem crc_next (mix c : Nat) (l : List Bool) (i : Nat) (h : i < l.length) : plain.crcB mix c (l.take (i + 1)) = plain.stepB mix (plain.crcB mix c (l.take i)) (l[i]?.getD false) := by
  rw [List.take_succ_eq_append_getElem h, plain.crcB_snoc, List.getElem?_eq_getElem h]; rfl

end Go.Proofs.YtgpojbgjfibblaaGreat.bits

namespace Go.Proofs.YtgpojbgjfibblaaGreat.bits
open Go.RowKit
set_option linter.unusedVariables false

set_option maxHeartbeats 1000000 in
set_option maxRecDepth 100000 in
theorem rcheck_gen (wd mix : Nat) (t s : ByteArray) (w : World) (hs : s.size ≤ 1048576) (hw0 : 0 < wd) (hw : wd ≤ 8) (hm : mix < 2 ^ wd) (ht : t.size = wd)
    (htb : ∀ k (h : k < t.size), ((t[k].toNat : Int) == 49) = mix.testBit k)
    (htaps : ∀ w, Calls Tryz.prog 112 #[.int .i64 wd] w fun e w' => e = .returned (.string t) ∧ w' = w) :
    Calls Tryz.prog 87 #[.int .i64 wd, .string s] w fun e w' => e = .returned (.int .i64 (plain.crcB mix (plain.startOf wd) (plain.bitsOf s.data.toList) : Nat)) ∧ Below w.heap.size w w' := by
  obtain ⟨i0, hi, hz0, hz1, hz2⟩ := info_parts infoB
  obtain ⟨B, hB⟩ : ∃ B, B = w.heap.size := ⟨_, rfl⟩
  rw [← hB]
  have HB := hide hB
  have HT := hide htaps
  have HTB := hide htb
  have Ht := hide ht
  have HM := hide hm
  clear hB htaps htb ht hm
  go_enter Tryz.func87, Tryz.ntmps87
  go_wp2_with (at_make; refine wpList_make_full _ rfl _ _ 188 rfl B 4 i0 (.bool false) 1 Tryz.underlying188 hi hz0 hz1 .i64 .i64 _ _ wd rfl rfl rfl rfl (by rw [hz2]; omega) (by unfold maxLen; omega) (by rw [unhide HB]; exact Nat.le_refl _) ?_; intro w1 hown1 hgrow1)
  obtain ⟨G, hG⟩ : ∃ G, G = w.heap.size := ⟨_, rfl⟩
  rw [← hG] at hown1 ⊢
  have hown1' : w1.ownsRow B 4 1 (sl G wd) wd (partL wd (plain.startOf wd) 0) := by
    rw [← partL_zero]
    rw [show (Value.bool false).cells = #[.bool false] from rfl, toList_madeCells_one, Nat.mul_one] at hown1
    exact hown1
  have hb1 : Below B w w1 := (Below.refl B w).grown hgrow1 (by rw [unhide HB]; exact Nat.le_refl _) (fun k hk => by cases hk)
  have hz : B ≤ w1.heap.size := by have := hgrow1.size; have := unhide HB; omega
  clear hown1 hgrow1 hG
  go_loopw [6] (fun i wr => ∃ k : Nat, k ≤ wd ∧ i = .int .i64 k ∧ wr.ownsRow B 4 1 (sl G wd) wd (partL wd (plain.startOf wd) k) ∧ Below B w wr ∧ B ≤ wr.heap.size) (fun i _ => wd - (intOf i).toNat)
  case atStart => exact ⟨0, Nat.zero_le _, rfl, hown1', hb1, hz⟩
  case round =>
    obtain ⟨k, hk, rfl, hown, hbel, hsz⟩ := hrel
    clear hown1' hb1 hz
    by_cases hlt : k < wd
    · have hcell := part_cell hlt hown
      have hfz := hown.frozenAt k
      have hst := hide (part_store hlt hown)
      have hge := hide (own_ge hown)
      have hbit := hide (start_bit wd k hlt)
      have HBL := hide hbel
      clear hown hbel
      go_wp2
      go_roundw
      case rel =>
        have e := unhide hst
        rw [unhide hbit] at e
        exact ⟨k + 1, by omega, by go_num, e, (unhide HBL).setCell (unhide hge).1 _, by simp; omega⟩
      case measure => simp [intOf]; omega
    · have e : wd = k := by omega
      subst e
      rw [partL_full] at hown
      have hown0 := hide hown
      have HBL := hide hbel
      clear hown hbel
      go_wp2_with (first | (go_at_call 112; refine (unhide HT _).mono ?_; rintro e w' ⟨rfl, rfl⟩) | (go_at_call 113; refine (rbits_any _ _ hs).mono ?_; rintro e w2 ⟨v, rfl, hownb, hbelb⟩))
      obtain ⟨ao, cap, rfl, hao⟩ := own_form hownb
      have hA := hide hao
      have o1 := own_below (unhide hown0) hbelb
      have o2 := own_base hownb hsz
      have o3 := (unhide HBL).trans (hbelb.mono hsz)
      have o4 : B ≤ w2.heap.size := Nat.le_trans hsz hbelb.size
      obtain ⟨L, hL⟩ : ∃ L, L = plain.bitsOf s.data.toList := ⟨_, rfl⟩
      rw [← hL] at o2
      have hlen : L.length = 8 * s.size := by rw [hL, plain.bitsOf_length]; simp
      have HL := hide hL
      have Hlen := hide hlen
      clear hownb hbelb hown0 HBL hao hL hlen HT
      go_loopw [5, 9] (fun r i wr => ∃ k g : Nat, k ≤ 8 * s.size ∧ i = .int .i64 k ∧ r = .slice (some ⟨g, 0, none⟩) wd wd ∧ wr.ownsRow B 4 1 (sl g wd) wd (rowL wd (plain.crcB mix (plain.startOf wd) (L.take k))) ∧
          wr.ownsRow B 4 1 (.slice ao (8 * s.size) cap) (8 * s.size) (L.map Value.bool) ∧ Below B w wr ∧ B ≤ wr.heap.size) (fun _ i _ => 8 * s.size - (intOf i).toNat)
      case atStart => exact ⟨0, G, Nat.zero_le _, rfl, rfl, by simpa [plain.crcB] using o1, o2, o3, o4⟩
      case round =>
        obtain ⟨k, g, hk, rfl, rfl, hrow, hbits, hbel, hsz2⟩ := hrel
        clear o1 o2 o3 o4
        by_cases hlt2 : k < 8 * s.size
        · obtain ⟨h, rfl, _⟩ := unhide hA (by omega)
          have hC := plain.crcB_lt wd mix (plain.startOf wd) (L.take k) (unhide HM) (by unfold plain.startOf; have := Nat.two_pow_pos wd; omega)
          have hnext := hide (crc_next mix (plain.startOf wd) L k (by rw [unhide Hlen]; exact hlt2))
          have HC := hide hC
          clear hC
          generalize plain.crcB mix (plain.startOf wd) (L.take k) = C at *
          have c1 := row_cell (k := 0) hw0 hrow
          have c2 : wr.cell? ⟨h, k, none⟩ = some (.bool (L[k]?.getD false)) := by
            rw [hbits.cellAt k (by omega), bits_at L k (by rw [unhide Hlen]; exact hlt2)]
          generalize L[k]?.getD false = b at *
          have HR := hide hrow
          have HBI := hide hbits
          have HBL := hide hbel
          clear hrow hbits hbel hA
          go_wp2_with fail
          go_quiet (fail)
          generalize hout : (!(tb C 0 == b)) = out
          have Hout := hide hout
          clear hout c1 c2
          go_wp2_with (at_make; refine wpList_make_full _ rfl _ _ 188 rfl B 4 i0 (.bool false) 1 Tryz.underlying188 hi hz0 hz1 .i64 .i64 _ _ wd rfl rfl rfl rfl (by rw [hz2]; omega) (by unfold maxLen; omega) (by simpa using hsz2) ?_; intro w3 hown3 hgrow3)
          obtain ⟨g2, hg2⟩ : ∃ g2, g2 = wr.heap.size := ⟨_, rfl⟩
          simp only [World.heap_drewN] at hown3
          rw [← hg2] at hown3 ⊢
          have lg := (own_ge (unhide HR)).2
          have lh : h < wr.heap.size := ((unhide HBI).lt h rfl).2
          have n1 : w3.ownsRow B 4 1 (sl g2 wd) wd (partL wd (plain.stepB mix C b) 0) := by
            rw [← partL_zero]
            rw [show (Value.bool false).cells = #[.bool false] from rfl, toList_madeCells_one, Nat.mul_one] at hown3
            exact hown3
          have n2 := (own_drewN (unhide HR) nq).kept hgrow3 (Or.inr (by simp [Value.ownBlock]))
          have n3 := (own_drewN (unhide HBI) nq).kept hgrow3 (Or.inr (by simp [Value.ownBlock]))
          have n4 : Below B w w3 := (below_drewN (unhide HBL) nq).grown hgrow3 (by simpa using hsz2) (fun k hk => by cases hk)
          have n5 : B ≤ w3.heap.size := by have := hgrow3.size; simp at this; omega
          have dg : g ≠ g2 := by omega
          have dh : h ≠ g2 := by omega
          have Dg := hide dg
          have Dh := hide dh
          clear hown3 hgrow3 HR HBI HBL hg2 lg lh dg dh hsz2
          go_loopw [12] (fun i wr => ∃ q : Nat, q ≤ wd ∧ i = .int .i64 q ∧ wr.ownsRow B 4 1 (sl g2 wd) wd (partL wd (plain.stepB mix C b) q) ∧ wr.ownsRow B 4 1 (sl g wd) wd (rowL wd C) ∧
            wr.ownsRow B 4 1 (.slice (some ⟨h, 0, none⟩) (8 * s.size) cap) (8 * s.size) (L.map Value.bool) ∧ Below B w wr ∧ B ≤ wr.heap.size) (fun i _ => wd - (intOf i).toNat)
          case atStart => exact ⟨0, Nat.zero_le _, rfl, n1, n2, n3, n4, n5⟩
          case round =>
            obtain ⟨q, hq, rfl, m1, m2, m3, m4, m5⟩ := hrel
            clear n1 n2 n3 n4 n5
            by_cases hq2 : q < wd
            · have hqt : q < t.size := by rw [unhide Ht]; exact hq2
              have NB := hide (next_bit wd mix C q b ((t[q].toNat : Int) == 49) (unhide HC) hq2 (unhide HTB q hqt))
              rw [unhide Hout] at NB
              have c4 := part_cell hq2 m1
              have c5 := m1.frozenAt q
              have M0 := hide (own_ge m1)
              have P := hide (fun x hx => part_put (x := x) hq2 m1 hx)
              have K2 := hide (fun x => ownsRow_setCell_other m2 (a := ⟨g2, q, none⟩) (by simp [Value.ownBlock]; exact unhide Dg) (.bool x))
              have K3 := hide (fun x => ownsRow_setCell_other m3 (a := ⟨g2, q, none⟩) (by simp [Value.ownBlock]; exact unhide Dh) (.bool x))
              have K4 := hide m4
              generalize hNN : plain.stepB mix C b = NN at *
              have HNN := hide hNN
              clear hNN
              by_cases hq3 : q + 1 < wd
              · have c3 := row_cell hq3 m2
                clear m1 m2 m3 m4
                cases out
                all_goals
                  go_wp2
                  go_roundw
                  case rel => exact ⟨q + 1, by omega, by go_num, unhide P _ (by rw [← unhide NB]; cases tb C (q + 1) <;> cases ((t[q].toNat : Int) == 49) <;> simp [hq3]), unhide K2 _, unhide K3 _, (unhide K4).setCell (unhide M0).1 _, by simp; omega⟩
                  case measure => simp [intOf]; omega
              · clear m1 m2 m3 m4
                cases out
                all_goals
                  go_wp2
                  go_roundw
                  case rel => exact ⟨q + 1, by omega, by go_num, unhide P _ (by rw [← unhide NB]; cases tb C (q + 1) <;> cases ((t[q].toNat : Int) == 49) <;> simp [hq3]), unhide K2 _, unhide K3 _, (unhide K4).setCell (unhide M0).1 _, by simp; omega⟩
                  case measure => simp [intOf]; omega
            · have e : wd = q := by omega
              subst e
              rw [partL_full, ← unhide hnext] at m1
              have M1 := hide m1
              have M3 := hide m3
              have M4 := hide m4
              clear m1 m2 m3 m4
              go_wp2
              go_roundw
              case rel => exact ⟨k + 1, g2, by omega, by go_num, rfl, unhide M1, unhide M3, unhide M4, m5⟩
              case measure => simp [intOf]; omega
        · have e : k = 8 * s.size := by omega
          rw [List.take_of_length_le (by rw [unhide Hlen]; omega), unhide HL] at hrow
          have hC := plain.crcB_lt wd mix (plain.startOf wd) (plain.bitsOf s.data.toList) (unhide HM) (by unfold plain.startOf; have := Nat.two_pow_pos wd; omega)
          have hle : (2 : Nat) ^ wd ≤ 256 := Nat.pow_le_pow_right (n := 2) (by decide) hw
          obtain ⟨C, hCe⟩ : ∃ C, C = plain.crcB mix (plain.startOf wd) (plain.bitsOf s.data.toList) := ⟨_, rfl⟩
          rw [← hCe] at hC hrow
          have HCe := hide hCe
          have HC := hide hC
          have HR := hide hrow
          have HBL := hide hbel
          have C0 : C < 256 := by omega
          clear hrow hbits hbel hA hC hle e hCe
          go_wp2_with fail
          go_loop [14, 15] (fun n i => ∃ q : Nat, q ≤ wd ∧ i = .int .i64 ((q : Int) - 1) ∧ n = .int .i64 (C / 2 ^ q : Nat)) (fun _ i => (intOf i + 1).toNat)
          case atStart => exact ⟨wd, Nat.le_refl _, rfl, by rw [Nat.div_eq_of_lt (unhide HC)]; rfl⟩
          case round =>
            obtain ⟨q, hq, rfl, rfl⟩ := hrel
            have hQ : C / 2 ^ q < 256 := Nat.lt_of_le_of_lt (Nat.div_le_self _ _) C0
            match q, hq, hQ with
            | 0, hq, hQ =>
              go_wp2
              go_ret
              exact ⟨ret_int (by first | (rw [← unhide HCe]; done) | (rw [← unhide HCe]; simp)), unhide HBL⟩
            | q + 1, hq, hQ =>
              have hst := hide (plain.top_step C q)
              have cc := row_cell (k := q) (by omega) (unhide HR)
              have eq1 : (((q + 1 : Nat) : Int) - 1) = (q : Int) := by omega
              rw [eq1]
              generalize C / 2 ^ (q + 1) = Y at *
              unfold tb at cc
              cases hbit : C.testBit q
              all_goals
                rw [hbit] at cc hst
                have Hbit := hide hbit
                clear hbit
                go_wp2
                go_round
                case rel => exact ⟨q, by omega, rfl, by rw [← unhide hst]; simp⟩
                case measure => first | (simp [intOf]; done) | (simp [intOf]; omega)

set_option maxHeartbeats 400000 in
set_option maxRecDepth 100000 in
theorem taps_3 (w : World) : Calls Tryz.prog 112 #[.int .i64 (3 : Nat)] w fun e w' => e = .returned (.string ⟨#[48, 49, 49]⟩) ∧ w' = w := by
  go_enter Tryz.func112, Tryz.ntmps112
  go_wp2
  go_ret
  exact ⟨rfl, rfl⟩
set_option maxHeartbeats 400000 in
set_option maxRecDepth 100000 in
theorem taps_7 (w : World) : Calls Tryz.prog 112 #[.int .i64 (7 : Nat)] w fun e w' => e = .returned (.string ⟨#[49, 48, 48, 49, 49, 49, 49]⟩) ∧ w' = w := by
  go_enter Tryz.func112, Tryz.ntmps112
  go_wp2
  go_ret
  exact ⟨rfl, rfl⟩
set_option maxHeartbeats 400000 in
set_option maxRecDepth 100000 in
theorem taps_8 (w : World) : Calls Tryz.prog 112 #[.int .i64 (8 : Nat)] w fun e w' => e = .returned (.string ⟨#[48, 48, 48, 48, 48, 49, 49, 49]⟩) ∧ w' = w := by
  go_enter Tryz.func112, Tryz.ntmps112
  go_wp2
  go_ret
  exact ⟨rfl, rfl⟩

theorem rcheck_any (wd : Nat) (s : ByteArray) (w : World) (hs : s.size ≤ 1048576) (h : wd = 3 ∨ wd = 7 ∨ wd = 8) :
    Calls Tryz.prog 87 #[.int .i64 wd, .string s] w fun e w' => e = .returned (.int .i64 (plain.checkOf wd s.data.toList : Nat)) ∧ Below w.heap.size w w' := by
  rcases h with rfl | rfl | rfl
  · exact rcheck_gen 3 6 ⟨#[48, 49, 49]⟩ s w hs (by decide) (by decide) (by decide) rfl (by decide) taps_3
  · exact rcheck_gen 7 121 ⟨#[49, 48, 48, 49, 49, 49, 49]⟩ s w hs (by decide) (by decide) (by decide) rfl (by decide) taps_7
  · exact rcheck_gen 8 224 ⟨#[48, 48, 48, 48, 48, 49, 49, 49]⟩ s w hs (by decide) (by decide) (by decide) rfl (by decide) taps_8

end Go.Proofs.YtgpojbgjfibblaaGreat.bits

namespace Go.Proofs.YtgpojbgjfibblaaGreat.texts
open Go.RowKit
set_option linter.unusedVariables false

theorem hide {p : Prop} (h : p) : Hid p := h
theorem unhide {p : Prop} (h : Hid p) : p := h
theorem ret_int {k : IntKind} {a b : Int} (h : a = b) : Ending.returned (.int k a) = .returned (.int k b) := by rw [h]
theorem ret_str {a b : ByteArray} (h : a = b) : Ending.returned (.string a) = .returned (.string b) := by rw [h]

/-- a text of a list of bytes -/
def bs (l : List UInt8) : ByteArray := ⟨l.toArray⟩
theorem bs_size (l : List UInt8) : (bs l).size = l.length := by simp [bs, ByteArray.size]
theorem bs_append (a b : List UInt8) : bs a ++ bs b = bs (a ++ b) := by
  apply ByteArray.ext
  simp [bs]
theorem bs_list (l : List UInt8) : (bs l).data.toList = l := by simp [bs]
theorem bs_toList (l : List UInt8) : (bs l).toList = l := ByteArray.toList_mk l
theorem bs_inj {a b : List UInt8} (h : bs a = bs b) : a = b := by rw [← bs_list a, h, bs_list]
theorem bs_of (s : ByteArray) : bs s.data.toList = s := by
  apply ByteArray.ext
  simp [bs]

/-- a number in k bytes, the highest first -/
def be : Nat → Nat → List UInt8
  | _, 0 => []
  | n, k + 1 => be (n / 256) k ++ [UInt8.ofNat (n % 256)]
theorem be_length (n k : Nat) : (be n k).length = k := by
  induction k generalizing n with
  | zero => rfl
  | succ k ih => simp [be, ih]

/-- 'string([]byte{x})': the text of one byte -/
theorem one_byte (w : World) (x : Int) (m : Nat) (h0 : x = m) (h1 : m < 256) :
    (convert 179 9 (.slice (some ⟨w.heap.size, 0, none⟩) 1 1)).run Tryz.prog (w.alloc (.cells #[.int .u8 x] 5)) = .ok (.string (bs [UInt8.ofNat m])) (w.alloc (.cells #[.int .u8 x] 5)) := by
  have h := run_convert_bytes_back (P := Tryz.prog) (w.alloc (.cells #[.int .u8 x] 5)) 179 9 5 ⟨w.heap.size, 0, none⟩ 1 [UInt8.ofNat m] Tryz.underlying179 Tryz.underlying5 Tryz.underlying9 (fun j hj => by
    have e : j = 0 := by simpa using hj
    subst e
    subst h0
    simp [Addr.add]
    omega)
  exact h

set_option maxHeartbeats 400000 in
theorem bytes_any (n k : Int) (w : World) (h0 : 0 ≤ n) (h1 : n ≤ 1099511627776) (k0 : 0 ≤ k) (k1 : k ≤ 8) :
    Calls Tryz.prog 85 #[.int .i64 n, .int .i64 k] w fun e w' => e = .returned (.string (bs (be n.toNat k.toNat))) ∧ Below w.heap.size w w' := by
  obtain ⟨n, rfl⟩ := Int.eq_ofNat_of_zero_le h0
  obtain ⟨k, rfl⟩ := Int.eq_ofNat_of_zero_le k0
  rw [Int.toNat_natCast, Int.toNat_natCast]
  obtain ⟨B, hB⟩ : ∃ B, B = w.heap.size := ⟨_, rfl⟩
  rw [← hB]
  have HB := hide hB
  clear hB
  go_enter Tryz.func85, Tryz.ntmps85
  go_wp2_with fail
  go_loopw [0, 5, 6] (fun m s i wr => ∃ (j : Nat) (l : List UInt8), j ≤ k ∧ l.length = j ∧ i = .int .i64 j ∧ m = .int .i64 (n / 256 ^ j : Nat) ∧ s = .string (bs l) ∧ be (n / 256 ^ j) (k - j) ++ l = be n k ∧ Below B w wr ∧ B ≤ wr.heap.size) (fun _ _ i _ => k - (intOf i).toNat)
  case atStart => exact ⟨0, [], by omega, rfl, rfl, by simp, rfl, by simp, Below.refl _ _, by rw [unhide HB]; exact Nat.le_refl _⟩
  case round =>
    obtain ⟨j, l, hj, hl, rfl, rfl, rfl, hbe, hbel, hsz⟩ := hrel
    have hN : n / 256 ^ j ≤ n := Nat.div_le_self _ _
    have HL := hide hl
    have HBE := hide hbe
    have HBL := hide hbel
    clear hl hbe hbel
    by_cases hlt : j < k
    · have hq := hide (show n / 256 ^ (j + 1) = n / 256 ^ j / 256 by rw [Nat.pow_succ, Nat.div_div_eq_div_mul])
      have hcut := hide (show k - j = (k - (j + 1)) + 1 by omega)
      have hcv := one_byte wr ((n / 256 ^ j : Nat) % 256) (n / 256 ^ j % 256) (by omega) (by omega)
      generalize n / 256 ^ j = N at *
      have hsz1 : (bs [UInt8.ofNat (N % 256)]).size + (bs l).size ≤ 9 := by rw [bs_size, bs_size, unhide HL]; simp; omega
      go_wp2
      go_roundw
      case rel =>
        have hbe2 := unhide HBE
        rw [unhide hcut] at hbe2
        refine ⟨j + 1, UInt8.ofNat (N % 256) :: l, by omega, by simp [unhide HL], by go_num, by rw [unhide hq]; go_num, ?_, ?_, (unhide HBL).alloc hsz _, by simp; omega⟩
        · rw [bs_append]; rfl
        · rw [unhide hq, ← hbe2]; simp [be]
      case measure => simp [intOf]; omega
    · have e : k = j := by omega
      subst e
      go_wp2
      go_ret
      refine ⟨ret_str ?_, unhide HBL⟩
      have hbe2 := unhide HBE
      rw [Nat.sub_self] at hbe2
      rw [← hbe2]
      rfl

/-- the number of all bytes of a text, the highest first -/
def numOf (l : List UInt8) : Nat := l.foldl (fun n b => 256 * n + b.toNat) 0
theorem numOf_snoc (l : List UInt8) (b : UInt8) : numOf (l ++ [b]) = 256 * numOf l + b.toNat := by simp [numOf]
theorem numOf_lt (l : List UInt8) : numOf l < 256 ^ l.length := by
  have h : ∀ (l : List UInt8) (n : Nat), l.foldl (fun n b => 256 * n + b.toNat) n < (n + 1) * 256 ^ l.length := by
    intro l
    induction l with
    | nil => intro n; simp
    | cons b l ih =>
      intro n
      have hb := b.toNat_lt
      have h1 := ih (256 * n + b.toNat)
      simp only [List.foldl_cons, List.length_cons]
      have h2 : (256 * n + b.toNat + 1) * 256 ^ l.length ≤ ((n + 1) * 256) * 256 ^ l.length := Nat.mul_le_mul_right _ (by omega)
      have h3 : (n + 1) * 256 ^ (l.length + 1) = ((n + 1) * 256) * 256 ^ l.length := by rw [Nat.pow_succ, Nat.mul_assoc, Nat.mul_comm 256]
      omega
  have := h l 0
  simpa [numOf] using this
theorem take_snoc (s : ByteArray) (k : Nat) (h : k < s.size) : s.data.toList.take (k + 1) = s.data.toList.take k ++ [s[k]] := by
  rw [List.take_succ_eq_append_getElem (by simpa using h)]; rfl

set_option maxHeartbeats 400000 in
theorem number_any (s : ByteArray) (w : World) (hs : s.size ≤ 7) :
    Calls Tryz.prog 97 #[.string s] w fun e w' => e = .returned (.int .i64 (numOf s.data.toList : Nat)) ∧ w' = w := by
  go_enter Tryz.func97, Tryz.ntmps97
  go_wp2_with fail
  go_loop [3, 4] (fun m i => ∃ k : Nat, k ≤ s.size ∧ i = .int .i64 k ∧ m = .int .i64 (numOf (s.data.toList.take k) : Nat)) (fun _ i => s.size - (intOf i).toNat)
  case atStart => exact ⟨0, by omega, rfl, rfl⟩
  case round =>
    obtain ⟨k, hk, rfl, rfl⟩ := hrel
    have hN := numOf_lt (s.data.toList.take k)
    have hl : (s.data.toList.take k).length ≤ k := List.length_take_le _ _
    have hp : (256 : Nat) ^ (s.data.toList.take k).length ≤ 256 ^ k := Nat.pow_le_pow_right (by decide) hl
    by_cases hlt : k < s.size
    · have hq : (256 : Nat) ^ k ≤ 256 ^ 6 := Nat.pow_le_pow_right (by decide) (by omega)
      have hq2 : (256 : Nat) ^ 6 = 281474976710656 := by decide
      have hN2 : numOf (s.data.toList.take k) < 281474976710656 := by omega
      have hb := s[k].toNat_lt
      have hsn := hide (numOf_snoc (s.data.toList.take k) s[k])
      have hts := hide (take_snoc s k hlt)
      clear hN hl hp hq hq2
      generalize numOf (s.data.toList.take k) = N at *
      go_wp2
      go_round
      case rel => exact ⟨k + 1, by omega, by go_num, by rw [unhide hts, unhide hsn]; go_num⟩
      case measure => simp [intOf]; omega
    · have e : k = s.size := by omega
      subst e
      clear hN hl hp
      go_wp2
      go_ret
      exact ⟨ret_int (by rw [List.take_of_length_le (by simp)]), rfl⟩

end Go.Proofs.YtgpojbgjfibblaaGreat.texts

namespace Go.Proofs.YtgpojbgjfibblaaGreat.texts
open Go.RowKit
set_option linter.unusedVariables false
attribute [local go_sem ↓] Go.wp_at_zero Go.wp_at_succ
attribute [local go_sem] bs_size be_length bs_append List.length_append

/-- the ten bytes of a route -/
def headL (src dst port : Nat) : List UInt8 := be src 4 ++ be dst 4 ++ be port 2

theorem keep_cell {w1 w2 : World} {a : Addr} {v : Value} (h : w1.cell? a = some v) (hb : Below w1.heap.size w1 w2) : w2.cell? a = some v := by
  have hlt : a.block < w1.heap.size := by
    by_cases h2 : a.block < w1.heap.size
    · exact h2
    · simp [World.cell?, Array.getElem?_eq_none (Nat.le_of_not_lt h2)] at h
  rw [hb.cell hlt]; exact h

theorem wrap_id {a : Int} (h0 : 0 ≤ a) (h1 : a ≤ 4294967295) : IntKind.i64.wrap a = a := by
  simp [IntKind.wrap, IntKind.bits, IntKind.signed]; omega
theorem keep_below {B : Nat} {w w1 w2 : World} (h : Below B w w1) (hb : Below w1.heap.size w1 w2) (hs : B ≤ w1.heap.size) : Below B w w2 := h.trans (hb.mono hs)

set_option maxHeartbeats 1000000 in
theorem head_any (a b c : Int) (w : World) (ha : 0 ≤ a) (ha' : a ≤ 4294967295) (hb : 0 ≤ b) (hb' : b ≤ 4294967295) (hc : 0 ≤ c) (hc' : c ≤ 65535) :
    Calls Tryz.prog 111 #[.agg #[.int .u32 a, .int .u32 b, .int .u16 c]] w fun e w' => e = .returned (.string (bs (headL a.toNat b.toNat c.toNat))) ∧ Below w.heap.size w w' := by
  have wa := wrap_id ha ha'
  have wb := wrap_id hb hb'
  have wc := wrap_id hc (by omega : c ≤ 4294967295)
  go_enter Tryz.func111, Tryz.ntmps111
  go_wp2_with fail
  go_region_held3 (fun w' => w'.cell? ⟨w.heap.size, 0, none⟩ = some (.int .u32 a) ∧ w'.cell? ⟨w.heap.size, 1, none⟩ = some (.int .u32 b) ∧ w'.cell? ⟨w.heap.size, 2, none⟩ = some (.int .u16 c) ∧ Below w.heap.size w w' ∧ w.heap.size ≤ w'.heap.size)
    (first | (go_keep; done) | (refine ⟨by simp, by simp, by simp, ((Below.refl _ _).alloc (Nat.le_refl _) _).drew, by simp⟩) | (go_split_ands; exact ⟨keep_cell (by assumption) hbel, keep_cell (by assumption) hbel, keep_cell (by assumption) hbel, keep_below (by assumption) hbel (by assumption), Nat.le_trans (by assumption) hbel.size⟩))
    ((go_at_call 85; refine (bytes_any _ _ _ (by omega) (by omega) (by omega) (by omega)).mono ?_; rintro e w' ⟨rfl, hbel⟩))
  all_goals go_split_ands
  all_goals go_wp2
  all_goals go_ret
  all_goals exact ⟨rfl, by assumption⟩

end Go.Proofs.YtgpojbgjfibblaaGreat.texts

namespace Go.Proofs.YtgpojbgjfibblaaGreat.texts
open Go.RowKit
set_option linter.unusedVariables false
attribute [local go_sem ↓] Go.wp_at_zero Go.wp_at_succ
attribute [local go_sem] bs_size be_length bs_append List.length_append

/-- a packet -/
structure Pk where
  src : Nat
  dst : Nat
  port : Nat
  seq : Nat
  time : Nat
  id : Nat
  flags : Nat
  body : List UInt8

/-- its numbers have their widths -/
structure Pk.ok (p : Pk) : Prop where
  src : p.src < 4294967296
  dst : p.dst < 4294967296
  port : p.port < 65536
  seq : p.seq < 65536
  time : p.time < 4294967296
  id : p.id < 65536
  flags : p.flags < 256

/-- its cells, as api.Packet and as gistref.Flat -/
def Pk.cells (p : Pk) : Array Value := #[.int .u32 p.src, .int .u32 p.dst, .int .u16 p.port, .int .u16 p.seq, .int .u32 p.time, .int .u16 p.id, .int .u8 p.flags, .string (bs p.body)]
def Pk.flat (p : Pk) : Array Value := #[.int .u32 p.src, .int .u32 p.dst, .int .u16 p.port, .int .i64 p.seq, .int .i64 p.time, .int .i64 p.id, .int .i64 p.flags, .string (bs p.body)]

def restL (p : Pk) : List UInt8 := be p.seq 2 ++ be p.time 4 ++ be p.id 2 ++ be p.flags 1
def hdrL (p : Pk) : List UInt8 := headL p.src p.dst p.port ++ restL p
theorem headL_length (a b c : Nat) : (headL a b c).length = 10 := by simp [headL, be_length]
theorem restL_length (p : Pk) : (restL p).length = 9 := by simp [restL, be_length]
theorem hdrL_length (p : Pk) : (hdrL p).length = 19 := by simp [hdrL, headL_length, restL_length]

attribute [local go_sem] headL_length restL_length hdrL_length

set_option maxHeartbeats 1000000 in
theorem rest_any (p : Pk) (w : World) (hp : p.ok) :
    Calls Tryz.prog 88 #[.agg p.flat] w fun e w' => e = .returned (.string (bs (restL p))) ∧ Below w.heap.size w w' := by
  obtain ⟨h1, h2, h3, h4, h5, h6, h7⟩ := hp
  unfold Pk.flat
  go_enter Tryz.func88, Tryz.ntmps88
  go_wp2_with fail
  go_region_held3 (fun w' => w'.cell? ⟨w.heap.size, 3, none⟩ = some (.int .i64 p.seq) ∧ w'.cell? ⟨w.heap.size, 4, none⟩ = some (.int .i64 p.time) ∧ w'.cell? ⟨w.heap.size, 5, none⟩ = some (.int .i64 p.id) ∧ w'.cell? ⟨w.heap.size, 6, none⟩ = some (.int .i64 p.flags) ∧ Below w.heap.size w w' ∧ w.heap.size ≤ w'.heap.size)
    (first | (go_keep; done) | (refine ⟨by simp, by simp, by simp, by simp, ((Below.refl _ _).alloc (Nat.le_refl _) _).drew, by simp⟩) | (go_split_ands; exact ⟨keep_cell (by assumption) hbel, keep_cell (by assumption) hbel, keep_cell (by assumption) hbel, keep_cell (by assumption) hbel, keep_below (by assumption) hbel (by assumption), Nat.le_trans (by assumption) hbel.size⟩))
    ((go_at_call 85; refine (bytes_any _ _ _ (by omega) (by omega) (by omega) (by omega)).mono ?_; rintro e w' ⟨rfl, hbel⟩))
  all_goals go_split_ands
  all_goals go_wp2
  all_goals go_ret
  all_goals exact ⟨rfl, by assumption⟩

set_option maxHeartbeats 1000000 in
theorem header_any (p : Pk) (w : World) (hp : p.ok) :
    Calls Tryz.prog 86 #[.agg p.flat] w fun e w' => e = .returned (.string (bs (hdrL p))) ∧ Below w.heap.size w w' := by
  have Hp := hide hp
  obtain ⟨h1, h2, h3, h4, h5, h6, h7⟩ := hp
  unfold Pk.flat
  go_enter Tryz.func86, Tryz.ntmps86
  go_wp2_with fail
  go_region_held3 (fun w' => w'.cell? ⟨w.heap.size, 0, none⟩ = some (.int .u32 p.src) ∧ w'.cell? ⟨w.heap.size, 1, none⟩ = some (.int .u32 p.dst) ∧ w'.cell? ⟨w.heap.size, 2, none⟩ = some (.int .u16 p.port) ∧ w'.cell? ⟨w.heap.size, 3, none⟩ = some (.int .i64 p.seq) ∧ w'.cell? ⟨w.heap.size, 4, none⟩ = some (.int .i64 p.time) ∧ w'.cell? ⟨w.heap.size, 5, none⟩ = some (.int .i64 p.id) ∧ w'.cell? ⟨w.heap.size, 6, none⟩ = some (.int .i64 p.flags) ∧ w'.cell? ⟨w.heap.size, 7, none⟩ = some (.string (bs p.body)) ∧ Below w.heap.size w w' ∧ w.heap.size ≤ w'.heap.size)
    (first | (go_keep; done) | (refine ⟨by simp, by simp, by simp, by simp, by simp, by simp, by simp, by simp, ((Below.refl _ _).alloc (Nat.le_refl _) _).drew, by simp⟩) | (go_split_ands; exact ⟨keep_cell (by assumption) hbel, keep_cell (by assumption) hbel, keep_cell (by assumption) hbel, keep_cell (by assumption) hbel, keep_cell (by assumption) hbel, keep_cell (by assumption) hbel, keep_cell (by assumption) hbel, keep_cell (by assumption) hbel, keep_below (by assumption) hbel (by assumption), Nat.le_trans (by assumption) hbel.size⟩))
    ((first | (go_at_call 111; refine (head_any _ _ _ _ (by omega) (by omega) (by omega) (by omega) (by omega) (by omega)).mono ?_; rintro e w' ⟨rfl, hbel⟩) | (go_at_call 88; refine (rest_any p _ (unhide Hp)).mono ?_; rintro e w' ⟨rfl, hbel⟩)))
  all_goals go_split_ands
  all_goals go_wp2
  all_goals go_ret
  all_goals exact ⟨rfl, by assumption⟩

set_option maxHeartbeats 1000000 in
theorem flatten_any (p : Pk) (w : World) (hp : p.ok) :
    Calls Tryz.prog 48 #[.agg p.cells] w fun e w' => e = .returned (.agg p.flat) ∧ Below w.heap.size w w' := by
  obtain ⟨h1, h2, h3, h4, h5, h6, h7⟩ := hp
  unfold Pk.cells Pk.flat
  go_enter Tryz.func48, Tryz.ntmps48
  go_wp2
  exact bodyPost_ret (v := .agg p.flat) (by simp [results, Tryz.results48, go_sem, Pk.flat]) rfl ⟨rfl, ((Below.refl _ _).alloc (Nat.le_refl _) _).alloc (by simp) _⟩

theorem wrap16 {n : Nat} (h : n < 65536) : IntKind.u16.wrap (n : Int) = n := by rw [IntKind.wrap_u16]; omega
theorem wrap8 {n : Nat} (h : n < 256) : IntKind.u8.wrap (n : Int) = n := by rw [IntKind.wrap_u8']; omega

set_option maxHeartbeats 1000000 in
theorem packet_any (p : Pk) (w : World) (hp : p.ok) :
    Calls Tryz.prog 60 #[.agg p.flat] w fun e w' => e = .returned (.agg p.cells) ∧ Below w.heap.size w w' := by
  obtain ⟨h1, h2, h3, h4, h5, h6, h7⟩ := hp
  have e1 := wrap16 h4
  have e2 := wrap16 h6
  have e3 := wrap8 h7
  unfold Pk.cells Pk.flat
  go_enter Tryz.func60, Tryz.ntmps60
  go_wp2
  exact bodyPost_ret (v := .agg p.cells) (by simp [results, Tryz.results60, go_sem, Pk.cells]) rfl ⟨rfl, ((Below.refl _ _).alloc (Nat.le_refl _) _).alloc (by simp) _⟩


end Go.Proofs.YtgpojbgjfibblaaGreat.texts
