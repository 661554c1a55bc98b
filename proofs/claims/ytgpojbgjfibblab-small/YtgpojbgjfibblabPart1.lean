/-
  The walks of the document's LowOf, Fits and FitsOf (package gistref): they answer as the program's calls do. Small facts for the statements on low bits: bounds, and what num gives. The walks of the program's checks and sums (packages check and gist). The walk of the document's Sum (package gistref). The walk of the document's bits (package gistref): the bits of a text, in new memory.
  Conditions stand in each theorem.
-/
import Derived.Test.YtgpojbgjfibblabPart0
namespace Go.Proofs.Ytgpojbgjfibblab.bits
open Go.RowKit
set_option linter.unusedVariables false

theorem ret_bool {a b : Bool} (h : a = b) : Ending.returned (.bool a) = .returned (.bool b) := by rw [h]

theorem cnt_pw {k wd : Int} (h0 : 0 ≤ k) (h1 : k ≤ wd) : cnt k wd = pw k.toNat := cnt_good h0 h1
theorem lowR_good {wd k r p b : Int} (hp : p < cnt k wd) (hb : b < cnt k wd) : lowR wd k r p b = plain.lowV wd.toNat k.toNat r p b := by
  unfold lowR; rw [if_pos ⟨hp, hb⟩]

/-- is v what its own lowest bits tell? -/
def fitB (wd v r k p : Int) : Bool := plain.lowV wd.toNat k.toNat r p (v % pw k.toNat) == v

theorem fitB_eq {wd v r k p : Int} (hk0 : 0 ≤ k) (hk : k ≤ wd) (hv0 : 0 ≤ v) (hv1 : v < pw wd.toNat) (hp : p < cnt k wd) : fitR wd v r k p = fitB wd v r k p := by
  have h := plain.fits_iff wd.toNat k.toNat r p v (by omega) hv0 hv1
  rw [fitR_good hp, cnt_good hk0 hk]
  unfold fitB pw
  by_cases h1 : plain.lowV wd.toNat k.toNat r p (v % 2 ^ k.toNat) = v
  · rw [beq_iff_eq.2 h1]; simp; exact h.1 h1
  · rw [beq_eq_false_iff_ne.2 h1]; simp
    have := mt h.2 h1
    omega

end Go.Proofs.Ytgpojbgjfibblab.bits

namespace Go.Proofs.Ytgpojbgjfibblab.bits
open Go.RowKit
set_option linter.unusedVariables false

theorem wrap16_bd (a : Int) : 0 ≤ IntKind.u16.wrap a ∧ IntKind.u16.wrap a ≤ 65535 := by
  rw [IntKind.wrap_u16]; omega
theorem lowR16_bd (k r p b : Int) : 0 ≤ lowR 16 k r p b ∧ lowR 16 k r p b ≤ 65535 := by
  have h := lowR_bd 16 k r p b
  have e : (2 : Int) ^ (16 : Int).toNat = 65536 := by decide
  omega
theorem lowR32_bd (k r p b : Int) : 0 ≤ lowR 32 k r p b ∧ lowR 32 k r p b ≤ 4294967295 := by
  have h := lowR_bd 32 k r p b
  have e : (2 : Int) ^ (32 : Int).toNat = 4294967296 := by decide
  omega
theorem pw16 : 65536 ≤ pw 16 := by decide
theorem pw32 : 4294967296 ≤ pw 32 := by decide

end Go.Proofs.Ytgpojbgjfibblab.bits

namespace Go.Proofs.Ytgpojbgjfibblab.bits
open Go.RowKit
set_option linter.unusedVariables false

theorem take_snoc (s : ByteArray) (k : Nat) (h : k < s.size) : s.data.toList.take (k + 1) = s.data.toList.take k ++ [s[k]] := by
  rw [List.take_succ_eq_append_getElem (by simpa using h)]; rfl
theorem get_byte (s : ByteArray) (k : Nat) (h : k < s.size) : s.data.toList[k]?.getD 0 = s[k] := by
  rw [List.getElem?_eq_getElem (by simpa using h)]; rfl

theorem low_bit (c x : Nat) (hc : c < 256) (hx : x < 256) : bits BinOp.and IntKind.u8 (bits BinOp.xor IntKind.u8 (c : Int) (x : Int)) 1 = (((c ^^^ x) % 2 : Nat) : Int) := by
  rw [u8_xor_nat c x hc hx]
  have h : c ^^^ x < 256 := Nat.xor_lt_two_pow (n := 8) hc hx
  have e := u8_and_nat (c ^^^ x) 1 h (by decide)
  rw [nat_mask1] at e
  exact e
theorem u8_eq {a b : Int} (h : a = b) : Value.int .u8 a = .int .u8 b := by rw [h]

set_option maxHeartbeats 400000 in
theorem addByte_nat (c mix x : Nat) (w : World) (hc : c < 256) (hm : mix < 256) (hx : x < 256) :
    Calls Try.prog 71 #[.int .u8 c, .int .u8 mix, .int .u8 x] w fun e w' => e = .returned (.int .u8 (plain.crcB mix c (plain.byteBits x) : Nat)) ∧ w' = w := by
  go_enter Try.func71, Try.ntmps71
  go_wp2
  go_loop [0, 2, 7] (fun a b i => ∃ j : Nat, j ≤ 8 ∧ i = .int .i64 j ∧ a = .int .u8 (plain.crcB mix c ((plain.byteBits x).take j) : Nat) ∧ b = .int .u8 (x / 2 ^ j : Nat)) (fun _ _ i => 8 - (intOf i).toNat)
  case atStart => exact ⟨0, by omega, rfl, rfl, by simp⟩
  case round =>
    obtain ⟨j, hj, rfl, rfl, rfl⟩ := hrel
    have hC := plain.crcB_lt 8 mix c ((plain.byteBits x).take j) hm hc
    have hX : x / 2 ^ j < 256 := Nat.lt_of_le_of_lt (Nat.div_le_self _ _) hx
    by_cases hlt : j < 8
    · have hs := hide (plain.crcB_snoc mix c ((plain.byteBits x).take j) (x / 2 ^ j % 2 == 1))
      have ht := hide (plain.byteBits_take x j hlt)
      have hd := hide (show x / 2 ^ (j + 1) = x / 2 ^ j / 2 by rw [Nat.pow_succ, Nat.div_div_eq_div_mul])
      generalize plain.crcB mix c ((plain.byteBits x).take j) = C at *
      generalize x / 2 ^ j = X at *
      have hC' : C < 256 := hC
      clear hC
      have hlow := hide (low_bit C X hC' hX)
      by_cases hb : (C ^^^ X) % 2 = 1
      · have hb2 : (bits BinOp.and IntKind.u8 (bits BinOp.xor IntKind.u8 (C : Int) (X : Int)) 1 == 1) = true := by rw [unhide hlow, hb]; rfl
        have hb' := hide hb
        clear hb
        go_wp2
        go_round
        case rel =>
          refine ⟨j + 1, by omega, by go_num, ?_, ?_⟩
          · rw [unhide ht, unhide hs, plain.stepB_yes _ _ _ (unhide hb')]
            exact u8_eq (u8_xor_nat (C / 2) mix (by omega) hm)
          · rw [unhide hd]; go_num
        case measure => simp [intOf]; omega
      · have hb2 : (bits BinOp.and IntKind.u8 (bits BinOp.xor IntKind.u8 (C : Int) (X : Int)) 1 == 1) = false := by
          rw [unhide hlow, show (C ^^^ X) % 2 = 0 by omega]; rfl
        have hb' := hide hb
        clear hb
        go_wp2
        go_round
        case rel =>
          refine ⟨j + 1, by omega, by go_num, ?_, ?_⟩
          · rw [unhide ht, unhide hs, plain.stepB_no _ _ _ (unhide hb')]; go_num
          · rw [unhide hd]; go_num
        case measure => simp [intOf]; omega
    · have e : j = 8 := by omega
      subst e
      go_wp2
      go_ret
      exact ⟨ret_int (by rw [List.take_of_length_le (by simp [plain.byteBits])]), rfl⟩

theorem addByte_any (c mix x : Int) (w : World) (c0 : 0 ≤ c) (hc : c < 256) (m0 : 0 ≤ mix) (hm : mix < 256) (x0 : 0 ≤ x) (hx : x < 256) :
    Calls Try.prog 71 #[.int .u8 c, .int .u8 mix, .int .u8 x] w fun e w' => e = .returned (.int .u8 (plain.crcB mix.toNat c.toNat (plain.byteBits x.toNat) : Nat)) ∧ w' = w := by
  obtain ⟨c, rfl⟩ := Int.eq_ofNat_of_zero_le c0
  obtain ⟨mix, rfl⟩ := Int.eq_ofNat_of_zero_le m0
  obtain ⟨x, rfl⟩ := Int.eq_ofNat_of_zero_le x0
  simp only [Int.toNat_natCast]
  exact addByte_nat c mix x w (by omega) (by omega) (by omega)

/-- what Crc answers -/
def crcR (wd : Int) (l : List UInt8) : Int := if wd = 3 ∨ wd = 7 ∨ wd = 8 then (plain.checkOf wd.toNat l : Nat) else 0
def crcE (wd : Int) : Int := if wd = 3 ∨ wd = 7 ∨ wd = 8 then 0 else 1

theorem checkOf_lt (wd : Nat) (l : List UInt8) (h : wd = 3 ∨ wd = 7 ∨ wd = 8) : plain.checkOf wd l < 2 ^ wd := by
  unfold plain.checkOf
  refine plain.crcB_lt wd _ _ _ ?_ ?_
  · rcases h with rfl | rfl | rfl <;> decide
  · rcases h with rfl | rfl | rfl <;> decide
theorem crcR_bd (wd : Int) (l : List UInt8) : 0 ≤ crcR wd l ∧ crcR wd l ≤ 255 := by
  unfold crcR
  split
  · rename_i h
    have h1 := checkOf_lt wd.toNat l (by omega)
    have h2 : (2 : Nat) ^ wd.toNat ≤ 2 ^ 8 := Nat.pow_le_pow_right (by decide) (by omega)
    have h3 : (2 : Nat) ^ 8 = 256 := by decide
    omega
  · omega

set_option maxHeartbeats 400000 in
theorem rule_bad (wd : Int) (w : World) (h3 : (wd == 3) = false) (h7 : (wd == 7) = false) (h8 : (wd == 8) = false) :
    Calls Try.prog 70 #[.int .i64 wd] w fun e w' => e = .returned (.tuple #[.int .u8 0, .int .u8 0]) ∧ w' = w := by
  go_enter Try.func70, Try.ntmps70
  go_wp2
  go_ret2
  exact ⟨rfl, rfl⟩

set_option maxHeartbeats 400000 in
theorem rule_3 (w : World) : Calls Try.prog 70 #[.int .i64 3] w fun e w' => e = .returned (.tuple #[.int .u8 7, .int .u8 6]) ∧ w' = w := by
  go_enter Try.func70, Try.ntmps70
  go_wp2
  go_ret2
  exact ⟨rfl, rfl⟩
set_option maxHeartbeats 400000 in
theorem rule_7 (w : World) : Calls Try.prog 70 #[.int .i64 7] w fun e w' => e = .returned (.tuple #[.int .u8 127, .int .u8 121]) ∧ w' = w := by
  go_enter Try.func70, Try.ntmps70
  go_wp2
  go_ret2
  exact ⟨rfl, rfl⟩
set_option maxHeartbeats 400000 in
theorem rule_8 (w : World) : Calls Try.prog 70 #[.int .i64 8] w fun e w' => e = .returned (.tuple #[.int .u8 255, .int .u8 224]) ∧ w' = w := by
  go_enter Try.func70, Try.ntmps70
  go_wp2
  go_ret2
  exact ⟨rfl, rfl⟩

set_option maxHeartbeats 400000 in
theorem ccrc_bad (wd : Int) (s : ByteArray) (w : World) (h3 : (wd == 3) = false) (h7 : (wd == 7) = false) (h8 : (wd == 8) = false) :
    Calls Try.prog 62 #[.int .i64 wd, .string s] w fun e w' => e = .returned (.tuple #[.int .u8 0, .int .i64 1]) ∧ w' = w := by
  go_enter Try.func62, Try.ntmps62
  go_wp2_with (go_at_call 70; refine (rule_bad _ _ h3 h7 h8).mono ?_; rintro e w' ⟨rfl, rfl⟩)
  go_ret2
  exact ⟨rfl, rfl⟩

theorem run_bits (mix c : Nat) (s : ByteArray) (k : Nat) (h : k < s.size) :
    plain.crcB mix c (plain.bitsOf (s.data.toList.take (k + 1))) = plain.crcB mix (plain.crcB mix c (plain.bitsOf (s.data.toList.take k))) (plain.byteBits s[k].toNat) := by
  rw [take_snoc s k h, plain.bitsOf_snoc, plain.crcB_append]

set_option maxHeartbeats 400000 in
theorem ccrc_good (wd : Int) (st mix : Int) (s : ByteArray) (w : World) (hs : s.size ≤ maxLen) (h0 : 0 < st) (h1 : st < 256) (m0 : 0 ≤ mix) (m1 : mix < 256)
    (hrule : ∀ w, Calls Try.prog 70 #[.int .i64 wd] w fun e w' => e = .returned (.tuple #[.int .u8 st, .int .u8 mix]) ∧ w' = w) :
    Calls Try.prog 62 #[.int .i64 wd, .string s] w fun e w' => e = .returned (.tuple #[.int .u8 (plain.crcB mix.toNat st.toNat (plain.bitsOf s.data.toList) : Nat), .int .i64 0]) ∧ w' = w := by
  unfold maxLen at hs
  have H := hide hrule
  clear hrule
  have hne : (st == 0) = false := by simp; omega
  go_enter Try.func62, Try.ntmps62
  go_wp2_with (go_at_call 70; refine (unhide H _).mono ?_; rintro e w' ⟨rfl, rfl⟩)
  go_loop [8, 9] (fun a i => ∃ k : Nat, k ≤ s.size ∧ i = .int .i64 k ∧ a = .int .u8 (plain.crcB mix.toNat st.toNat (plain.bitsOf (s.data.toList.take k)) : Nat)) (fun _ i => s.size - (intOf i).toNat)
  case atStart => exact ⟨0, Nat.zero_le _, rfl, by simp [plain.bitsOf, plain.crcB]; omega⟩
  case round =>
    obtain ⟨k, hk, rfl, rfl⟩ := hrel
    have hC := plain.crcB_lt 8 mix.toNat st.toNat (plain.bitsOf (s.data.toList.take k)) (by omega) (by omega)
    by_cases hlt : k < s.size
    · have hrun := hide (run_bits mix.toNat st.toNat s k hlt)
      have hbyte := s[k].toNat_lt
      generalize plain.crcB mix.toNat st.toNat (plain.bitsOf (s.data.toList.take k)) = C at *
      go_wp2_with (go_at_call 71; refine (addByte_any _ _ _ _ (by omega) (by omega) m0 m1 (by omega) (by omega)).mono ?_; rintro e w' ⟨rfl, rfl⟩)
      go_round
      case rel => exact ⟨k + 1, by omega, by go_num, by rw [unhide hrun]⟩
      case measure => simp [intOf]; omega
    · have e : k = s.size := by omega
      subst e
      go_wp2_with fail
      go_ret2
      exact ⟨ret_two (by rw [List.take_of_length_le (by simp)]) rfl, rfl⟩

theorem check3 (l : List UInt8) : plain.checkOf 3 l = plain.crcB (6 : Int).toNat (7 : Int).toNat (plain.bitsOf l) := rfl
theorem check7 (l : List UInt8) : plain.checkOf 7 l = plain.crcB (121 : Int).toNat (127 : Int).toNat (plain.bitsOf l) := rfl
theorem check8 (l : List UInt8) : plain.checkOf 8 l = plain.crcB (224 : Int).toNat (255 : Int).toNat (plain.bitsOf l) := rfl
theorem crcR3 (l : List UInt8) : crcR 3 l = (plain.checkOf 3 l : Nat) := rfl
theorem crcR7 (l : List UInt8) : crcR 7 l = (plain.checkOf 7 l : Nat) := rfl
theorem crcR8 (l : List UInt8) : crcR 8 l = (plain.checkOf 8 l : Nat) := rfl

theorem ccrc_any (wd : Int) (s : ByteArray) (w : World) (hs : s.size ≤ maxLen) :
    Calls Try.prog 62 #[.int .i64 wd, .string s] w fun e w' => e = .returned (.tuple #[.int .u8 (crcR wd s.data.toList), .int .i64 (crcE wd)]) ∧ w' = w := by
  by_cases h : wd = 3 ∨ wd = 7 ∨ wd = 8
  · rcases h with rfl | rfl | rfl
    · rw [crcR3, check3]
      exact ccrc_good 3 7 6 s w hs (by decide) (by decide) (by decide) (by decide) rule_3
    · rw [crcR7, check7]
      exact ccrc_good 7 127 121 s w hs (by decide) (by decide) (by decide) (by decide) rule_7
    · rw [crcR8, check8]
      exact ccrc_good 8 255 224 s w hs (by decide) (by decide) (by decide) (by decide) rule_8
  · have e1 : crcR wd s.data.toList = 0 := by unfold crcR; rw [if_neg h]
    have e2 : crcE wd = 1 := by unfold crcE; rw [if_neg h]
    rw [e1, e2]
    exact ccrc_bad wd s w (by simp; omega) (by simp; omega) (by simp; omega)

def shareB (i b : Int) : Int := if i % 2 = 0 then 256 * b else b
theorem and_low16 (n : Nat) (h : n < 4294967296) : bits BinOp.and IntKind.u32 (n : Int) 65535 = ((n % 65536 : Nat) : Int) := by
  have e := u32_and_nat n 65535 h (by decide)
  rw [nat_mask16] at e
  exact e
theorem csum_step (s : ByteArray) (k : Nat) (h : k < s.size) :
    (bits BinOp.and IntKind.u32 (((plain.fold16 (plain.psum s.data.toList k) : Nat) : Int) + shareB (k : Int) (s[k].toNat : Int)) 65535 +
      (((plain.fold16 (plain.psum s.data.toList k) : Nat) : Int) + shareB (k : Int) (s[k].toNat : Int)) / 65536) % 4294967296 = ((plain.fold16 (plain.psum s.data.toList (k + 1)) : Nat) : Int) := by
  have hT := plain.fold16_le (plain.psum s.data.toList k)
  have hb := s[k].toNat_lt
  obtain ⟨d, hd, hd2, hd3⟩ : ∃ d : Nat, shareB (k : Int) (s[k].toNat : Int) = d ∧ d ≤ 65280 ∧ plain.psum s.data.toList (k + 1) = plain.psum s.data.toList k + d := by
    have hg := get_byte s k h
    by_cases hk : k % 2 = 0
    · refine ⟨256 * s[k].toNat, ?_, by omega, ?_⟩
      · unfold shareB; rw [if_pos (by omega)]; omega
      · rw [plain.psum_even _ _ hk, hg]
    · refine ⟨s[k].toNat, ?_, by omega, ?_⟩
      · unfold shareB; rw [if_neg (by omega)]
      · rw [plain.psum_odd _ _ (by omega), hg]
  rw [hd, hd3, ← plain.fold16_add, ← plain.carry_step _ _ hT hd2]
  generalize plain.fold16 (plain.psum s.data.toList k) = T at *
  rw [show ((T : Int) + (d : Int)) = ((T + d : Nat) : Int) by omega, and_low16 _ (by omega)]
  omega
theorem xor_ones (n : Nat) (h : n < 65536) : 65535 ^^^ n = 65535 - n := by
  have e : (BitVec.allOnes 16 ^^^ BitVec.ofNat 16 n).toNat = (~~~ (BitVec.ofNat 16 n)).toNat := by rw [BitVec.allOnes_xor]
  rw [BitVec.toNat_xor, BitVec.toNat_not, BitVec.toNat_allOnes, BitVec.toNat_ofNat, Nat.mod_eq_of_lt (by omega)] at e
  exact e
theorem not16 (n : Nat) (h : n ≤ 65535) : bits BinOp.xor IntKind.u16 IntKind.u16.max (n : Int) = ((65535 - n : Nat) : Int) := by
  have e := u16_xor_nat 65535 n (by decide) (by omega)
  rw [xor_ones n (by omega)] at e
  exact e

theorem csum_end (s : ByteArray) : bits BinOp.xor IntKind.u16 IntKind.u16.max ((plain.fold16 (plain.psum s.data.toList s.size) : Nat) : Int) = ((plain.sumOf s.data.toList : Nat) : Int) := by
  rw [not16 _ (plain.fold16_le _)]
  rfl

end Go.Proofs.Ytgpojbgjfibblab.bits

namespace Go.Proofs.Ytgpojbgjfibblab.bits
open Go.RowKit
set_option linter.unusedVariables false

theorem psum_two (s : ByteArray) (k : Nat) (hk : k % 2 = 0) (h : k + 1 < s.size) :
    plain.psum s.data.toList (k + 2) = plain.psum s.data.toList k + 256 * s[k].toNat + s[k + 1].toNat := by
  rw [plain.psum_odd _ (k + 1) (by omega), plain.psum_even _ k hk, get_byte s k (by omega), get_byte s (k + 1) h]
theorem psum_one (s : ByteArray) (k : Nat) (hk : k % 2 = 0) (h : k < s.size) (h' : s.size ≤ k + 1) :
    plain.psum s.data.toList (k + 2) = plain.psum s.data.toList k + 256 * s[k].toNat := by
  rw [plain.psum_past _ (k + 1) (by simpa using h'), plain.psum_even _ k hk, get_byte s k h]
theorem psum_end (s : ByteArray) (k : Nat) (h : s.size ≤ k) (h' : k ≤ s.size + 1) : plain.psum s.data.toList k = plain.psum s.data.toList s.size := by
  by_cases e : k = s.size
  · rw [e]
  · rw [show k = s.size + 1 by omega, plain.psum_past _ _ (by simp)]
theorem sumOf_end (s : ByteArray) (m : Nat) (h : m ≤ 65535) (hm : plain.fold16 m = plain.fold16 (plain.psum s.data.toList s.size)) : (65535 - (m : Int)) = ((plain.sumOf s.data.toList : Nat) : Int) := by
  have e : plain.sumOf s.data.toList = 65535 - m := by
    unfold plain.sumOf
    rw [show s.data.toList.length = s.size from by simp, ← hm, plain.fold16_id m h]
  rw [e]; omega

end Go.Proofs.Ytgpojbgjfibblab.bits

namespace Go.Proofs.Ytgpojbgjfibblab.bits
open Go.RowKit
set_option linter.unusedVariables false

theorem bitI (X : Nat) : ((X : Int) % 2 == 1) = (X % 2 == 1) := by
  rcases Nat.mod_two_eq_zero_or_one X with h | h
  · rw [h, show ((X : Int) % 2) = 0 by omega]; rfl
  · rw [h, show ((X : Int) % 2) = 1 by omega]; rfl

end Go.Proofs.Ytgpojbgjfibblab.bits
