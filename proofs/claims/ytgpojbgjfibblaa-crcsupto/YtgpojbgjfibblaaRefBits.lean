/-
  The walk of the document's bits (package gistref): the bits of a text, in new memory.
  Condition: the text has at most 1048576 bytes.
-/
import Derived.Test.YtgpojbgjfibblaaRefSum
namespace Go.Proofs.Ytgpojbgjfibblaa.bits
open Go.RowKit
set_option linter.unusedVariables false

theorem infoB : (Try.prog.info? 4).map (fun i => (i.zero, i.size, i.bytes)) = some (some (.bool false), 1, 1) := by kernel_rfl

theorem bitI (X : Nat) : ((X : Int) % 2 == 1) = (X % 2 == 1) := by
  rcases Nat.mod_two_eq_zero_or_one X with h | h
  · rw [h, show ((X : Int) % 2) = 0 by omega]; rfl
  · rw [h, show ((X : Int) % 2) = 1 by omega]; rfl

/-- one bit more: what the append leaves -/
theorem bits_more {B : Nat} {w wr w1 : World} {v v' : Value} {l : List Bool} {n : Nat} {x X j : Nat} {o : Obj}
    (hj : j < 8) (hX : X = x / 2 ^ j) (hbel : Below B w wr) (hB : B ≤ wr.heap.size)
    (hown : wr.ownsRow B 4 1 v n ((l ++ (plain.byteBits x).take j).map Value.bool))
    (hown1 : w1.ownsRow B 4 1 v' (n + 1) ((l ++ (plain.byteBits x).take j).map Value.bool ++ [.bool ((X : Int) % 2 == 1)])) (hg : (wr.alloc o).grownBy w1 v.ownBlock) :
    w1.ownsRow B 4 1 v' (n + 1) ((l ++ (plain.byteBits x).take (j + 1)).map Value.bool) ∧ Below B w w1 ∧ B ≤ w1.heap.size := by
  have hb1 : Below B w w1 := (hbel.alloc hB o).grown hg (by simp; omega) (fun k hk => (hown.lt k hk).1)
  refine ⟨?_, hb1, ?_⟩
  · rw [plain.byteBits_take x j hj, ← hX, ← bitI]
    simpa using hown1
  · have := hg.size
    simp at this
    omega

theorem bits_byte {B : Nat} {wr : World} {v : Value} {s : ByteArray} {k : Nat} (hlt : k < s.size)
    (hown : wr.ownsRow B 4 1 v (8 * k + 8) ((plain.bitsOf (s.data.toList.take k) ++ (plain.byteBits s[k].toNat).take 8).map Value.bool)) :
    wr.ownsRow B 4 1 v (8 * (k + 1)) ((plain.bitsOf (s.data.toList.take (k + 1))).map Value.bool) := by
  rw [take_snoc s k hlt, plain.bitsOf_snoc]
  rw [List.take_of_length_le (l := plain.byteBits s[k].toNat) (by rw [plain.byteBits_length]; exact Nat.le_refl _)] at hown
  exact hown

set_option maxHeartbeats 1000000 in
set_option maxRecDepth 100000 in
theorem rbits_any (s : ByteArray) (w : World) (hs : s.size ≤ 1048576) :
    Calls Try.prog 83 #[.string s] w fun e w' => ∃ v, e = .returned v ∧ w'.ownsRow w.heap.size 4 1 v (8 * s.size) ((plain.bitsOf s.data.toList).map Value.bool) ∧ Below w.heap.size w w' := by
  obtain ⟨i0, hi, hz0, hz1, hz2⟩ := info_parts infoB
  obtain ⟨B, hB⟩ : ∃ B, B = w.heap.size := ⟨_, rfl⟩
  rw [← hB]
  have HB := hide hB
  clear hB
  go_enter Try.func83, Try.ntmps83
  go_wp2_with fail
  go_loopw [3, 4] (fun v i wr => ∃ k : Nat, k ≤ s.size ∧ i = .int .i64 k ∧ wr.ownsRow B 4 1 v (8 * k) ((plain.bitsOf (s.data.toList.take k)).map Value.bool) ∧ Below B w wr ∧ B ≤ wr.heap.size) (fun _ i _ => s.size - (intOf i).toNat)
  case atStart => exact ⟨0, Nat.zero_le _, rfl, World.ownsRow_nil _ _ _ _, Below.refl _ _, by rw [unhide HB]; exact Nat.le_refl _⟩
  case round =>
    obtain ⟨k, hk, rfl, hown, hbel, hsz⟩ := hrel
    by_cases hlt : k < s.size
    · have hb := s[k].toNat_lt
      have HO := hide hown
      have HBL := hide hbel
      clear hown hbel
      go_wp2_with fail
      go_loopw [3, 5, 6] (fun v b j wq => ∃ q : Nat, q ≤ 8 ∧ j = .int .i64 q ∧ b = .int .i64 (s[k].toNat / 2 ^ q : Nat) ∧ wq.ownsRow B 4 1 v (8 * k + q) ((plain.bitsOf (s.data.toList.take k) ++ (plain.byteBits s[k].toNat).take q).map Value.bool) ∧ Below B w wq ∧ B ≤ wq.heap.size) (fun _ _ j _ => 8 - (intOf j).toNat)
      case atStart => exact ⟨0, by omega, rfl, by simp, by simpa using unhide HO, unhide HBL, hsz⟩
      case round =>
        obtain ⟨q, hq, rfl, rfl, hown, hbel, hszq⟩ := hrel
        clear HO HBL hsz
        by_cases hlt2 : q < 8
        · have hd := hide (show s[k].toNat / 2 ^ (q + 1) = s[k].toNat / 2 ^ q / 2 by rw [Nat.pow_succ, Nat.div_div_eq_div_mul])
          have hX : s[k].toNat / 2 ^ q < 256 := Nat.lt_of_le_of_lt (Nat.div_le_self _ _) hb
          generalize hXX : s[k].toNat / 2 ^ q = X at *
          have HXX := hide hXX
          clear hXX
          have HBL := hide hbel
          clear hbel
          go_wp2_with (at_builtin; refine wpList_append_own _ rfl _ _ 157 rfl B 4 i0 (.bool false) 1 1 Try.underlying157 hi hz0 hz1 hz2 rfl (by decide) _ _ _ rfl (hown.alloc _) ⟨wr.heap.size, 0, none⟩ 1 1 [.bool ((X : Int) % 2 == 1)] rfl rfl ?c1 ?c2 ?c3 ?c4 ?c5 ?_)
          case c1 =>
            intro j u hj
            match j, hj with
            | 0, hj => simp at hj; subst hj; simp [Addr.add]
          case c2 => intro u hu; simp at hu; subst hu; rfl
          case c3 => unfold maxLen; omega
          case c4 => omega
          case c5 => simp; omega
          · intro v' w1 hown1 hgrow _
            obtain ⟨R1, R2, R3⟩ := bits_more hlt2 (unhide HXX).symm (unhide HBL) hszq hown (by simpa using hown1) hgrow
            clear hown hown1 hgrow HBL hszq
            have H1 := hide R1
            have H2 := hide R2
            clear R1 R2
            go_wp2
            go_roundw
            case rel => exact ⟨q + 1, by omega, by go_num, by rw [unhide hd]; go_num, unhide H1, unhide H2, R3⟩
            case measure => simp [intOf]; omega
        · have e : q = 8 := by omega
          subst e
          have hown2 := bits_byte hlt hown
          have HO := hide hown2
          have HBL := hide hbel
          clear hown hown2 hbel
          go_wp2
          go_roundw
          case rel => exact ⟨k + 1, by omega, by go_num, unhide HO, unhide HBL, hszq⟩
          case measure => simp [intOf]; omega
    · have e : k = s.size := by omega
      subst e
      rw [List.take_of_length_le (by simp)] at hown
      have HO := hide hown
      have HBL := hide hbel
      clear hown hbel
      go_wp2_with fail
      go_ret
      exact ⟨_, rfl, unhide HO, unhide HBL⟩

end Go.Proofs.Ytgpojbgjfibblaa.bits
