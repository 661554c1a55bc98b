/-
  The walks of the program's numbers as bytes (package wire): Text8, Text16, Text32, Number.
  Conditions stand in each theorem.
-/
import Derived.Test.YtgpojbgjfibblaaReadRest
import Derived.Test.YtgpojbgjfibblaaCrc
namespace Go.Proofs.Ytgpojbgjfibblaa.texts
open Go.RowKit
set_option linter.unusedVariables false
attribute [local go_sem ↓] Go.wp_at_zero Go.wp_at_succ
attribute [local go_sem] bs_size be_length bs_append List.length_append

theorem wbe1 (n : Nat) (h : n < 256) : be n 1 = [UInt8.ofNat n] := by
  simp [be, Nat.mod_eq_of_lt h]
theorem wbe2 (n : Nat) : be n 2 = [UInt8.ofNat (n / 256 % 256), UInt8.ofNat (n % 256)] := by
  simp [be]
theorem wbe4 (n : Nat) : be n 4 = be (n / 65536) 2 ++ be (n % 65536) 2 := by
  have e1 : n / 65536 % 256 = n / 256 / 256 % 256 := by omega
  have e2 : n % 65536 / 256 % 256 = n / 256 % 256 := by omega
  have e3 : n % 65536 % 256 = n % 256 := by omega
  have e4 : n / 65536 / 256 % 256 = n / 256 / 256 / 256 % 256 := by omega
  rw [wbe2, wbe2, e1, e2, e3, e4]
  simp [be]

/-- 'string([]byte{x, y})': the text of two bytes -/
theorem two_bytes (w : World) (x y : Int) (m n : Nat) (h0 : x = m) (h1 : m < 256) (g0 : y = n) (g1 : n < 256) :
    (convert 61 9 (.slice (some ⟨w.heap.size, 0, none⟩) 2 2)).run Try.prog (w.alloc (.cells #[.int .u8 x, .int .u8 y] 5)) = .ok (.string (bs [UInt8.ofNat m, UInt8.ofNat n])) (w.alloc (.cells #[.int .u8 x, .int .u8 y] 5)) := by
  have h := run_convert_bytes_back (P := Try.prog) (w.alloc (.cells #[.int .u8 x, .int .u8 y] 5)) 61 9 5 ⟨w.heap.size, 0, none⟩ 2 [UInt8.ofNat m, UInt8.ofNat n] Try.underlying61 Try.underlying5 Try.underlying9 (fun j hj => by
    subst h0 g0
    match j, hj with
    | 0, _ => simp [Addr.add]; omega
    | 1, _ => simp [Addr.add]; omega)
  exact h

set_option maxHeartbeats 400000 in
theorem text8_any (n : Int) (w : World) (h0 : 0 ≤ n) (h1 : n < 256) :
    Calls Try.prog 89 #[.int .u8 n] w fun e w' => e = .returned (.string (bs (be n.toNat 1))) ∧ Below w.heap.size w w' := by
  obtain ⟨n, rfl⟩ := Int.eq_ofNat_of_zero_le h0
  have hcv := one_byte w (n : Int) n rfl (by omega)
  go_enter Try.func89, Try.ntmps89
  go_wp2
  go_ret
  exact ⟨ret_str (by rw [Int.toNat_natCast, wbe1 n (by omega)]), (Below.refl _ _).alloc (Nat.le_refl _) _⟩

set_option maxHeartbeats 400000 in
theorem text16_any (n : Int) (w : World) (h0 : 0 ≤ n) (h1 : n < 65536) :
    Calls Try.prog 90 #[.int .u16 n] w fun e w' => e = .returned (.string (bs (be n.toNat 2))) ∧ Below w.heap.size w w' := by
  obtain ⟨n, rfl⟩ := Int.eq_ofNat_of_zero_le h0
  have hcv := two_bytes w ((n : Int) / 256) ((n : Int) % 256) (n / 256) (n % 256) (by omega) (by omega) (by omega) (by omega)
  go_enter Try.func90, Try.ntmps90
  go_wp2
  go_ret
  exact ⟨ret_str (by rw [Int.toNat_natCast, wbe2, Nat.mod_eq_of_lt (show n / 256 < 256 by omega)]), (Below.refl _ _).alloc (Nat.le_refl _) _⟩

set_option maxHeartbeats 400000 in
theorem text32_any (n : Int) (w : World) (h0 : 0 ≤ n) (h1 : n < 4294967296) :
    Calls Try.prog 107 #[.int .u32 n] w fun e w' => e = .returned (.string (bs (be n.toNat 4))) ∧ Below w.heap.size w w' := by
  have hw : IntKind.u16.wrap n = n % 65536 := IntKind.wrap_u16 n
  go_enter Try.func107, Try.ntmps107
  go_wp2_with (first | (go_at_call 90; refine (text16_any _ _ (by omega) (by omega)).mono ?_; rintro e w1 ⟨rfl, hb1⟩))
  go_ret
  rename_i wA hA
  refine ⟨ret_str ?_, hA.trans (hb1.mono hA.size)⟩
  rw [wbe4 n.toNat, show (n / 65536).toNat = n.toNat / 65536 by omega, show (n % 65536).toNat = n.toNat % 65536 by omega]

theorem or_low (a b : Nat) (h : b < 256) : (a * 256 ||| b) = a * 256 + b := by
  have := Nat.two_pow_add_eq_or_of_lt (i := 8) (b := b) (by simpa using h) a
  rw [Nat.mul_comm a 256]
  exact this.symm
theorem u32_next (N b : Nat) (hN : N < 16777216) (hb : b < 256) : bits BinOp.or IntKind.u32 ((N : Int) * 256) (b : Int) = ((256 * N + b : Nat) : Int) := by
  have h := u32_or_nat (N * 256) b (by omega) (by omega)
  rw [or_low N b hb] at h
  have e : ((N * 256 : Nat) : Int) = (N : Int) * 256 := by omega
  rw [e] at h
  rw [h, Nat.mul_comm N 256]

set_option maxHeartbeats 400000 in
theorem wnumber_any (s : ByteArray) (w : World) (hs : s.size ≤ 4) :
    Calls Try.prog 110 #[.string s] w fun e w' => e = .returned (.int .u32 (numOf s.data.toList : Nat)) ∧ w' = w := by
  go_enter Try.func110, Try.ntmps110
  go_wp2_with fail
  go_loop [3, 4] (fun m i => ∃ k : Nat, k ≤ s.size ∧ i = .int .i64 k ∧ m = .int .u32 (numOf (s.data.toList.take k) : Nat)) (fun _ i => s.size - (intOf i).toNat)
  case atStart => exact ⟨0, by omega, rfl, rfl⟩
  case round =>
    obtain ⟨k, hk, rfl, rfl⟩ := hrel
    have hN := numOf_lt (s.data.toList.take k)
    have hl : (s.data.toList.take k).length ≤ k := List.length_take_le _ _
    have hp : (256 : Nat) ^ (s.data.toList.take k).length ≤ 256 ^ k := Nat.pow_le_pow_right (by decide) hl
    by_cases hlt : k < s.size
    · have hq : (256 : Nat) ^ k ≤ 256 ^ 3 := Nat.pow_le_pow_right (by decide) (by omega)
      have hq2 : (256 : Nat) ^ 3 = 16777216 := by decide
      have hN2 : numOf (s.data.toList.take k) < 16777216 := by omega
      have hb := s[k].toNat_lt
      have hsn := hide (numOf_snoc (s.data.toList.take k) s[k])
      have hts := hide (take_snoc s k hlt)
      clear hN hl hp hq hq2
      generalize numOf (s.data.toList.take k) = N at *
      have hnx := u32_next N s[k].toNat hN2 hb
      go_wp2
      go_round
      case rel => exact ⟨k + 1, by omega, by go_num, by rw [unhide hts, unhide hsn]; go_num⟩
      case measure => simp [intOf]; omega
    · have e : k = s.size := by omega
      subst e
      clear hN hl hp
      go_wp2
      go_ret
      exact ⟨ret_int (by rw [List.take_of_length_le (by simp)]), rfl⟩

end Go.Proofs.Ytgpojbgjfibblaa.texts
