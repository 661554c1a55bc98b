/-
  The walk of the document's Sum (package gistref).
  Condition: the text has at most 1048576 bytes.
-/
import Derived.Test.YtgpojbgjfibblaaCrc
namespace Go.Proofs.Ytgpojbgjfibblaa.bits
open Go.RowKit
set_option linter.unusedVariables false

theorem psum_two (s : ByteArray) (k : Nat) (hk : k % 2 = 0) (h : k + 1 < s.size) :
    plain.psum s.data.toList (k + 2) = plain.psum s.data.toList k + 256 * s[k].toNat + s[k + 1].toNat := by
  rw [plain.psum_odd _ (k + 1) (by omega), plain.psum_even _ k hk, get_byte s k (by omega), get_byte s (k + 1) h]
theorem psum_one (s : ByteArray) (k : Nat) (hk : k % 2 = 0) (h : k < s.size) (h' : s.size ≤ k + 1) :
    plain.psum s.data.toList (k + 2) = plain.psum s.data.toList k + 256 * s[k].toNat := by
  rw [plain.psum_past _ (k + 1) (by simpa using h'), plain.psum_even _ k hk, get_byte s k h]
theorem psum_end (s : ByteArray) (k : Nat) (h : s.size ≤ k) (h' : k ≤ s.size + 1) : plain.psum s.data.toList k = plain.psum s.data.toList s.size := by
  by_cases e : k = s.size
  · rw [e]
  · rw [show k = s.size + 1 by omega, plain.psum_past _ _ (by simp)]
theorem sumOf_end (s : ByteArray) (m : Nat) (h : m ≤ 65535) (hm : plain.fold16 m = plain.fold16 (plain.psum s.data.toList s.size)) : (65535 - (m : Int)) = ((plain.sumOf s.data.toList : Nat) : Int) := by
  have e : plain.sumOf s.data.toList = 65535 - m := by
    unfold plain.sumOf
    rw [show s.data.toList.length = s.size from by simp, ← hm, plain.fold16_id m h]
  rw [e]; omega

set_option maxHeartbeats 1000000 in
theorem rsum_any (s : ByteArray) (w : World) (hs : s.size ≤ 1048576) :
    Calls Try.prog 16 #[.string s] w fun e w' => e = .returned (.int .i64 (plain.sumOf s.data.toList : Nat)) ∧ w' = w := by
  go_enter Try.func16, Try.ntmps16
  go_wp2_with fail
  go_loop [3, 4] (fun t i => ∃ k : Nat, k ≤ s.size + 1 ∧ k % 2 = 0 ∧ i = .int .i64 k ∧ t = .int .i64 (plain.psum s.data.toList k : Nat)) (fun _ i => s.size + 2 - (intOf i).toNat)
  case atStart => exact ⟨0, Nat.zero_le _, rfl, rfl, rfl⟩
  case round =>
    obtain ⟨k, hk, hk2, rfl, rfl⟩ := hrel
    have hP := plain.psum_le s.data.toList k
    by_cases hlt : k < s.size
    · have hb := s[k].toNat_lt
      have hK2 := hide hk2
      clear hk2
      by_cases hlt2 : k + 1 < s.size
      · have hb2 := s[k + 1].toNat_lt
        have hps := hide (psum_two s k (unhide hK2) hlt2)
        generalize plain.psum s.data.toList k = P at *
        go_wp2
        go_round
        case rel => exact ⟨k + 2, by omega, by have := unhide hK2; omega, by go_num, by rw [unhide hps]; go_num⟩
        case measure => simp [intOf]; omega
      · have hps := hide (psum_one s k (unhide hK2) hlt (by omega))
        generalize plain.psum s.data.toList k = P at *
        go_wp2
        go_round
        case rel => exact ⟨k + 2, by omega, by have := unhide hK2; omega, by go_num, by rw [unhide hps]; go_num⟩
        case measure => simp [intOf]; omega
    · have hend := hide (psum_end s k (by omega) hk)
      have hfin := hide (sumOf_end s)
      clear hk2
      generalize hPP : plain.psum s.data.toList k = P at *
      have HPP := hide hPP
      clear hPP
      go_wp2_with fail
      go_loop [3] (fun t => ∃ m : Nat, m ≤ 65280 * k ∧ plain.fold16 m = plain.fold16 P ∧ t = .int .i64 m) (fun t => (intOf t).toNat)
      case atStart => exact ⟨P, hP, rfl, rfl⟩
      case round =>
        obtain ⟨m, hm, hm2, rfl⟩ := hrel
        have HM := hide hm2
        clear hm2
        by_cases hg : 65535 < m
        · go_wp2
          go_round
          case rel => exact ⟨m % 65536 + m / 65536, by omega, by rw [plain.fold16_carry]; exact unhide HM, by go_num⟩
          case measure => simp [intOf]; omega
        · go_wp2
          go_ret
          exact ⟨ret_int (unhide hfin m (by omega) (by rw [unhide HM, unhide hend])), rfl⟩

end Go.Proofs.Ytgpojbgjfibblaa.bits
