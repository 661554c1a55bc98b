/-
  The walks of the document's LowOf, Fits and FitsOf (package gistref): they answer as the program's calls do. Small facts for the statements on low bits: bounds, and what num gives. The walks of the program's checks and sums (packages check and gist). The walk of the document's Sum (package gistref). The walk of the document's bits (package gistref): the bits of a text, in new memory.
  Conditions stand in each theorem.
-/
import Derived.Test.YtgpojbgjfibblaaGreatPart0
namespace Go.Proofs.YtgpojbgjfibblaaGreat.bits
open Go.RowKit
set_option linter.unusedVariables false

theorem ret_bool {a b : Bool} (h : a = b) : Ending.returned (.bool a) = .returned (.bool b) := by rw [h]

theorem cnt_pw {k wd : Int} (h0 : 0 ≤ k) (h1 : k ≤ wd) : cnt k wd = pw k.toNat := cnt_good h0 h1
theorem lowR_good {wd k r p b : Int} (hp : p < cnt k wd) (hb : b < cnt k wd) : lowR wd k r p b = plain.lowV wd.toNat k.toNat r p b := by
  unfold lowR; rw [if_pos ⟨hp, hb⟩]

/-- is v what its own lowest bits tell? -/
def fitB (wd v r k p : Int) : Bool := plain.lowV wd.toNat k.toNat r p (v % pw k.toNat) == v

theorem fitB_eq {wd v r k p : Int} (hk0 : 0 ≤ k) (hk : k ≤ wd) (hv0 : 0 ≤ v) (hv1 : v < pw wd.toNat) (hp : p < cnt k wd) : fitR wd v r k p = fitB wd v r k p := by
  have h := plain.fits_iff wd.toNat k.toNat r p v (by omega) hv0 hv1
  rw [fitR_good hp, cnt_good hk0 hk]
  unfold fitB pw
  by_cases h1 : plain.lowV wd.toNat k.toNat r p (v % 2 ^ k.toNat) = v
  · rw [beq_iff_eq.2 h1]; simp; exact h.1 h1
  · rw [beq_eq_false_iff_ne.2 h1]; simp
    have := mt h.2 h1
    omega

set_option maxHeartbeats 1000000 in
theorem rfits_any (wd v r k p : Int) (w : World) (h0 : 0 ≤ k) (h1 : k ≤ wd) (h2 : wd ≤ 32) (hv : 0 ≤ v) (hv' : v ≤ 4294967295) (hr : 0 ≤ r) (hr' : r ≤ 4294967295) (hp : 0 ≤ p) (hp' : p ≤ 4294967295) :
    Calls Tryz.prog 110 #[.int .i64 wd, .int .i64 v, .int .i64 r, .int .i64 k, .int .i64 p] w fun e w' => e = .returned (.bool (fitB wd v r k p)) ∧ w' = w := by
  have hbk := pw_bd k.toNat (by omega)
  have hq0 := Int.emod_nonneg v (show pw k.toNat ≠ 0 by omega)
  have hq1 := Int.emod_lt_of_pos v (show 0 < pw k.toNat by omega)
  go_enter Tryz.func110, Tryz.ntmps110
  go_wp2_with (first | (go_at_call 109; refine (two_any _ _ h0 (by omega)).mono ?_; rintro e w' ⟨rfl, rfl⟩) | (go_at_call 98; refine (rlow_any _ _ _ _ _ _ h0 h1 h2 hr hr' hp hp' hq0 hq1).mono ?_; rintro e w' ⟨rfl, rfl⟩))
  go_ret
  exact ⟨rfl, rfl⟩

end Go.Proofs.YtgpojbgjfibblaaGreat.bits

namespace Go.Proofs.YtgpojbgjfibblaaGreat.bits
open Go.RowKit
set_option linter.unusedVariables false

theorem wrap16_bd (a : Int) : 0 ≤ IntKind.u16.wrap a ∧ IntKind.u16.wrap a ≤ 65535 := by
  rw [IntKind.wrap_u16]; omega
theorem lowR16_bd (k r p b : Int) : 0 ≤ lowR 16 k r p b ∧ lowR 16 k r p b ≤ 65535 := by
  have h := lowR_bd 16 k r p b
  have e : (2 : Int) ^ (16 : Int).toNat = 65536 := by decide
  omega
theorem lowR32_bd (k r p b : Int) : 0 ≤ lowR 32 k r p b ∧ lowR 32 k r p b ≤ 4294967295 := by
  have h := lowR_bd 32 k r p b
  have e : (2 : Int) ^ (32 : Int).toNat = 4294967296 := by decide
  omega
theorem pw16 : 65536 ≤ pw 16 := by decide
theorem pw32 : 4294967296 ≤ pw 32 := by decide

set_option maxHeartbeats 400000 in
theorem num_any (a : Int) (w : World) :
    Calls Tryz.prog 13 #[.int .i64 a] w fun e w' => e = .returned (.int .i64 a) ∧ w' = w := by
  go_enter Tryz.func13, Tryz.ntmps13
  go_wp2
  go_ret
  exact ⟨rfl, rfl⟩

end Go.Proofs.YtgpojbgjfibblaaGreat.bits

namespace Go.Proofs.YtgpojbgjfibblaaGreat.bits
open Go.RowKit
set_option linter.unusedVariables false

theorem take_snoc (s : ByteArray) (k : Nat) (h : k < s.size) : s.data.toList.take (k + 1) = s.data.toList.take k ++ [s[k]] := by
  rw [List.take_succ_eq_append_getElem (by simpa using h)]; rfl
theorem get_byte (s : ByteArray) (k : Nat) (h : k < s.size) : s.data.toList[k]?.getD 0 = s[k] := by
  rw [List.getElem?_eq_getElem (by simpa using h)]; rfl

theorem low_bit (c x : Nat) (hc : c < 256) (hx : x < 256) : bits BinOp.and IntKind.u8 (bits BinOp.xor IntKind.u8 (c : Int) (x : Int)) 1 = (((c ^^^ x) % 2 : Nat) : Int) := by
  rw [u8_xor_nat c x hc hx]
  have h : c ^^^ x < 256 := Nat.xor_lt_two_pow (n := 8) hc hx
  have e := u8_and_nat (c ^^^ x) 1 h (by decide)
  rw [nat_mask1] at e
  exact e
theorem u8_eq {a b : Int} (h : a = b) : Value.int .u8 a = .int .u8 b := by rw [h]

set_option maxHeartbeats 400000 in
theorem addByte_nat (c mix x : Nat) (w : World) (hc : c < 256) (hm : mix < 256) (hx : x < 256) :
    Calls Tryz.prog 145 #[.int .u8 c, .int .u8 mix, .int .u8 x] w fun e w' => e = .returned (.int .u8 (plain.crcB mix c (plain.byteBits x) : Nat)) ∧ w' = w := by
  go_enter Tryz.func145, Tryz.ntmps145
  go_wp2
  go_loop [0, 2, 7] (fun a b i => ∃ j : Nat, j ≤ 8 ∧ i = .int .i64 j ∧ a = .int .u8 (plain.crcB mix c ((plain.byteBits x).take j) : Nat) ∧ b = .int .u8 (x / 2 ^ j : Nat)) (fun _ _ i => 8 - (intOf i).toNat)
  case atStart => exact ⟨0, by omega, rfl, rfl, by simp⟩
  case round =>
    obtain ⟨j, hj, rfl, rfl, rfl⟩ := hrel
    have hC := plain.crcB_lt 8 mix c ((plain.byteBits x).take j) hm hc
    have hX : x / 2 ^ j < 256 := Nat.lt_of_le_of_lt (Nat.div_le_self _ _) hx
    by_cases hlt : j < 8
    · have hs := hide (plain.crcB_snoc mix c ((plain.byteBits x).take j) (x / 2 ^ j % 2 == 1))
      have ht := hide (plain.byteBits_take x j hlt)
      have hd := hide (show x / 2 ^ (j + 1) = x / 2 ^ j / 2 by rw [Nat.pow_succ, Nat.div_div_eq_div_mul])
      generalize plain.crcB mix c ((plain.byteBits x).take j) = C at *
      generalize x / 2 ^ j = X at *
      have hC' : C < 256 := hC
      clear hC
      have hlow := hide (low_bit C X hC' hX)
      by_cases hb : (C ^^^ X) % 2 = 1
      · have hb2 : (bits BinOp.and IntKind.u8 (bits BinOp.xor IntKind.u8 (C : Int) (X : Int)) 1 == 1) = true := by rw [unhide hlow, hb]; rfl
        have hb' := hide hb
        clear hb
        go_wp2
        go_round
        case rel =>
          refine ⟨j + 1, by omega, by go_num, ?_, ?_⟩
          · rw [unhide ht, unhide hs, plain.stepB_yes _ _ _ (unhide hb')]
            exact u8_eq (u8_xor_nat (C / 2) mix (by omega) hm)
          · rw [unhide hd]; go_num
        case measure => simp [intOf]; omega
      · have hb2 : (bits BinOp.and IntKind.u8 (bits BinOp.xor IntKind.u8 (C : Int) (X : Int)) 1 == 1) = false := by
          rw [unhide hlow, show (C ^^^ X) % 2 = 0 by omega]; rfl
        have hb' := hide hb
        clear hb
        go_wp2
        go_round
        case rel =>
          refine ⟨j + 1, by omega, by go_num, ?_, ?_⟩
          · rw [unhide ht, unhide hs, plain.stepB_no _ _ _ (unhide hb')]; go_num
          · rw [unhide hd]; go_num
        case measure => simp [intOf]; omega
    · have e : j = 8 := by omega
      subst e
      go_wp2
      go_ret
      exact ⟨ret_int (by rw [List.take_of_length_le (by simp [plain.byteBits])]), rfl⟩

theorem addByte_any (c mix x : Int) (w : World) (c0 : 0 ≤ c) (hc : c < 256) (m0 : 0 ≤ mix) (hm : mix < 256) (x0 : 0 ≤ x) (hx : x < 256) :
    Calls Tryz.prog 145 #[.int .u8 c, .int .u8 mix, .int .u8 x] w fun e w' => e = .returned (.int .u8 (plain.crcB mix.toNat c.toNat (plain.byteBits x.toNat) : Nat)) ∧ w' = w := by
  obtain ⟨c, rfl⟩ := Int.eq_ofNat_of_zero_le c0
  obtain ⟨mix, rfl⟩ := Int.eq_ofNat_of_zero_le m0
  obtain ⟨x, rfl⟩ := Int.eq_ofNat_of_zero_le x0
  simp only [Int.toNat_natCast]
  exact addByte_nat c mix x w (by omega) (by omega) (by omega)

/-- what Crc answers -/
def crcR (wd : Int) (l : List UInt8) : Int := if wd = 3 ∨ wd = 7 ∨ wd = 8 then (plain.checkOf wd.toNat l : Nat) else 0
def crcE (wd : Int) : Int := if wd = 3 ∨ wd = 7 ∨ wd = 8 then 0 else 1

theorem checkOf_lt (wd : Nat) (l : List UInt8) (h : wd = 3 ∨ wd = 7 ∨ wd = 8) : plain.checkOf wd l < 2 ^ wd := by
  unfold plain.checkOf
  refine plain.crcB_lt wd _ _ _ ?_ ?_
  · rcases h with rfl | rfl | rfl <;> decide
  · rcases h with rfl | rfl | rfl <;> decide
theorem crcR_bd (wd : Int) (l : List UInt8) : 0 ≤ crcR wd l ∧ crcR wd l ≤ 255 := by
  unfold crcR
  split
  · rename_i h
    have h1 := checkOf_lt wd.toNat l (by omega)
    have h2 : (2 : Nat) ^ wd.toNat ≤ 2 ^ 8 := Nat.pow_le_pow_right (by decide) (by omega)
    have h3 : (2 : Nat) ^ 8 = 256 := by decide
    omega
  · omega

set_option maxHeartbeats 400000 in
theorem rule_bad (wd : Int) (w : World) (h3 : (wd == 3) = false) (h7 : (wd == 7) = false) (h8 : (wd == 8) = false) :
    Calls Tryz.prog 144 #[.int .i64 wd] w fun e w' => e = .returned (.tuple #[.int .u8 0, .int .u8 0]) ∧ w' = w := by
  go_enter Tryz.func144, Tryz.ntmps144
  go_wp2
  go_ret2
  exact ⟨rfl, rfl⟩

set_option maxHeartbeats 400000 in
theorem rule_3 (w : World) : Calls Tryz.prog 144 #[.int .i64 3] w fun e w' => e = .returned (.tuple #[.int .u8 7, .int .u8 6]) ∧ w' = w := by
  go_enter Tryz.func144, Tryz.ntmps144
  go_wp2
  go_ret2
  exact ⟨rfl, rfl⟩
set_option maxHeartbeats 400000 in
theorem rule_7 (w : World) : Calls Tryz.prog 144 #[.int .i64 7] w fun e w' => e = .returned (.tuple #[.int .u8 127, .int .u8 121]) ∧ w' = w := by
  go_enter Tryz.func144, Tryz.ntmps144
  go_wp2
  go_ret2
  exact ⟨rfl, rfl⟩
set_option maxHeartbeats 400000 in
theorem rule_8 (w : World) : Calls Tryz.prog 144 #[.int .i64 8] w fun e w' => e = .returned (.tuple #[.int .u8 255, .int .u8 224]) ∧ w' = w := by
  go_enter Tryz.func144, Tryz.ntmps144
  go_wp2
  go_ret2
  exact ⟨rfl, rfl⟩

set_option maxHeartbeats 400000 in
theorem ccrc_bad (wd : Int) (s : ByteArray) (w : World) (h3 : (wd == 3) = false) (h7 : (wd == 7) = false) (h8 : (wd == 8) = false) :
    Calls Tryz.prog 136 #[.int .i64 wd, .string s] w fun e w' => e = .returned (.tuple #[.int .u8 0, .int .i64 1]) ∧ w' = w := by
  go_enter Tryz.func136, Tryz.ntmps136
  go_wp2_with (go_at_call 144; refine (rule_bad _ _ h3 h7 h8).mono ?_; rintro e w' ⟨rfl, rfl⟩)
  go_ret2
  exact ⟨rfl, rfl⟩

theorem run_bits (mix c : Nat) (s : ByteArray) (k : Nat) (h : k < s.size) :
    plain.crcB mix c (plain.bitsOf (s.data.toList.take (k + 1))) = plain.crcB mix (plain.crcB mix c (plain.bitsOf (s.data.toList.take k))) (plain.byteBits s[k].toNat) := by
  rw [take_snoc s k h, plain.bitsOf_snoc, plain.crcB_append]

set_option maxHeartbeats 400000 in
theorem ccrc_good (wd : Int) (st mix : Int) (s : ByteArray) (w : World) (hs : s.size ≤ maxLen) (h0 : 0 < st) (h1 : st < 256) (m0 : 0 ≤ mix) (m1 : mix < 256)
    (hrule : ∀ w, Calls Tryz.prog 144 #[.int .i64 wd] w fun e w' => e = .returned (.tuple #[.int .u8 st, .int .u8 mix]) ∧ w' = w) :
    Calls Tryz.prog 136 #[.int .i64 wd, .string s] w fun e w' => e = .returned (.tuple #[.int .u8 (plain.crcB mix.toNat st.toNat (plain.bitsOf s.data.toList) : Nat), .int .i64 0]) ∧ w' = w := by
  unfold maxLen at hs
  have H := hide hrule
  clear hrule
  have hne : (st == 0) = false := by simp; omega
  go_enter Tryz.func136, Tryz.ntmps136
  go_wp2_with (go_at_call 144; refine (unhide H _).mono ?_; rintro e w' ⟨rfl, rfl⟩)
  go_loop [8, 9] (fun a i => ∃ k : Nat, k ≤ s.size ∧ i = .int .i64 k ∧ a = .int .u8 (plain.crcB mix.toNat st.toNat (plain.bitsOf (s.data.toList.take k)) : Nat)) (fun _ i => s.size - (intOf i).toNat)
  case atStart => exact ⟨0, Nat.zero_le _, rfl, by simp [plain.bitsOf, plain.crcB]; omega⟩
  case round =>
    obtain ⟨k, hk, rfl, rfl⟩ := hrel
    have hC := plain.crcB_lt 8 mix.toNat st.toNat (plain.bitsOf (s.data.toList.take k)) (by omega) (by omega)
    by_cases hlt : k < s.size
    · have hrun := hide (run_bits mix.toNat st.toNat s k hlt)
      have hbyte := s[k].toNat_lt
      generalize plain.crcB mix.toNat st.toNat (plain.bitsOf (s.data.toList.take k)) = C at *
      go_wp2_with (go_at_call 145; refine (addByte_any _ _ _ _ (by omega) (by omega) m0 m1 (by omega) (by omega)).mono ?_; rintro e w' ⟨rfl, rfl⟩)
      go_round
      case rel => exact ⟨k + 1, by omega, by go_num, by rw [unhide hrun]⟩
      case measure => simp [intOf]; omega
    · have e : k = s.size := by omega
      subst e
      go_wp2_with fail
      go_ret2
      exact ⟨ret_two (by rw [List.take_of_length_le (by simp)]) rfl, rfl⟩

theorem check3 (l : List UInt8) : plain.checkOf 3 l = plain.crcB (6 : Int).toNat (7 : Int).toNat (plain.bitsOf l) := rfl
theorem check7 (l : List UInt8) : plain.checkOf 7 l = plain.crcB (121 : Int).toNat (127 : Int).toNat (plain.bitsOf l) := rfl
theorem check8 (l : List UInt8) : plain.checkOf 8 l = plain.crcB (224 : Int).toNat (255 : Int).toNat (plain.bitsOf l) := rfl
theorem crcR3 (l : List UInt8) : crcR 3 l = (plain.checkOf 3 l : Nat) := rfl
theorem crcR7 (l : List UInt8) : crcR 7 l = (plain.checkOf 7 l : Nat) := rfl
theorem crcR8 (l : List UInt8) : crcR 8 l = (plain.checkOf 8 l : Nat) := rfl

theorem ccrc_any (wd : Int) (s : ByteArray) (w : World) (hs : s.size ≤ maxLen) :
    Calls Tryz.prog 136 #[.int .i64 wd, .string s] w fun e w' => e = .returned (.tuple #[.int .u8 (crcR wd s.data.toList), .int .i64 (crcE wd)]) ∧ w' = w := by
  by_cases h : wd = 3 ∨ wd = 7 ∨ wd = 8
  · rcases h with rfl | rfl | rfl
    · rw [crcR3, check3]
      exact ccrc_good 3 7 6 s w hs (by decide) (by decide) (by decide) (by decide) rule_3
    · rw [crcR7, check7]
      exact ccrc_good 7 127 121 s w hs (by decide) (by decide) (by decide) (by decide) rule_7
    · rw [crcR8, check8]
      exact ccrc_good 8 255 224 s w hs (by decide) (by decide) (by decide) (by decide) rule_8
  · have e1 : crcR wd s.data.toList = 0 := by unfold crcR; rw [if_neg h]
    have e2 : crcE wd = 1 := by unfold crcE; rw [if_neg h]
    rw [e1, e2]
    exact ccrc_bad wd s w (by simp; omega) (by simp; omega) (by simp; omega)

def shareB (i b : Int) : Int := if i % 2 = 0 then 256 * b else b
theorem and_low16 (n : Nat) (h : n < 4294967296) : bits BinOp.and IntKind.u32 (n : Int) 65535 = ((n % 65536 : Nat) : Int) := by
  have e := u32_and_nat n 65535 h (by decide)
  rw [nat_mask16] at e
  exact e
theorem csum_step (s : ByteArray) (k : Nat) (h : k < s.size) :
    (bits BinOp.and IntKind.u32 (((plain.fold16 (plain.psum s.data.toList k) : Nat) : Int) + shareB (k : Int) (s[k].toNat : Int)) 65535 +
      (((plain.fold16 (plain.psum s.data.toList k) : Nat) : Int) + shareB (k : Int) (s[k].toNat : Int)) / 65536) % 4294967296 = ((plain.fold16 (plain.psum s.data.toList (k + 1)) : Nat) : Int) := by
  have hT := plain.fold16_le (plain.psum s.data.toList k)
  have hb := s[k].toNat_lt
  obtain ⟨d, hd, hd2, hd3⟩ : ∃ d : Nat, shareB (k : Int) (s[k].toNat : Int) = d ∧ d ≤ 65280 ∧ plain.psum s.data.toList (k + 1) = plain.psum s.data.toList k + d := by
    have hg := get_byte s k h
    by_cases hk : k % 2 = 0
    · refine ⟨256 * s[k].toNat, ?_, by omega, ?_⟩
      · unfold shareB; rw [if_pos (by omega)]; omega
      · rw [plain.psum_even _ _ hk, hg]
    · refine ⟨s[k].toNat, ?_, by omega, ?_⟩
      · unfold shareB; rw [if_neg (by omega)]
      · rw [plain.psum_odd _ _ (by omega), hg]
  rw [hd, hd3, ← plain.fold16_add, ← plain.carry_step _ _ hT hd2]
  generalize plain.fold16 (plain.psum s.data.toList k) = T at *
  rw [show ((T : Int) + (d : Int)) = ((T + d : Nat) : Int) by omega, and_low16 _ (by omega)]
  omega
theorem xor_ones (n : Nat) (h : n < 65536) : 65535 ^^^ n = 65535 - n := by
  have e : (BitVec.allOnes 16 ^^^ BitVec.ofNat 16 n).toNat = (~~~ (BitVec.ofNat 16 n)).toNat := by rw [BitVec.allOnes_xor]
  rw [BitVec.toNat_xor, BitVec.toNat_not, BitVec.toNat_allOnes, BitVec.toNat_ofNat, Nat.mod_eq_of_lt (by omega)] at e
  exact e
theorem not16 (n : Nat) (h : n ≤ 65535) : bits BinOp.xor IntKind.u16 IntKind.u16.max (n : Int) = ((65535 - n : Nat) : Int) := by
  have e := u16_xor_nat 65535 n (by decide) (by omega)
  rw [xor_ones n (by omega)] at e
  exact e

theorem csum_end (s : ByteArray) : bits BinOp.xor IntKind.u16 IntKind.u16.max ((plain.fold16 (plain.psum s.data.toList s.size) : Nat) : Int) = ((plain.sumOf s.data.toList : Nat) : Int) := by
  rw [not16 _ (plain.fold16_le _)]
  rfl

end Go.Proofs.YtgpojbgjfibblaaGreat.bits

namespace Go.Proofs.YtgpojbgjfibblaaGreat.bits
open Go.RowKit
set_option linter.unusedVariables false

theorem psum_two (s : ByteArray) (k : Nat) (hk : k % 2 = 0) (h : k + 1 < s.size) :
    plain.psum s.data.toList (k + 2) = plain.psum s.data.toList k + 256 * s[k].toNat + s[k + 1].toNat := by
  rw [plain.psum_odd _ (k + 1) (by omega), plain.psum_even _ k hk, get_byte s k (by omega), get_byte s (k + 1) h]
theorem psum_one (s : ByteArray) (k : Nat) (hk : k % 2 = 0) (h : k < s.size) (h' : s.size ≤ k + 1) :
    plain.psum s.data.toList (k + 2) = plain.psum s.data.toList k + 256 * s[k].toNat := by
  rw [plain.psum_past _ (k + 1) (by simpa using h'), plain.psum_even _ k hk, get_byte s k h]
theorem psum_end (s : ByteArray) (k : Nat) (h : s.size ≤ k) (h' : k ≤ s.size + 1) : plain.psum s.data.toList k = plain.psum s.data.toList s.size := by
  by_cases e : k = s.size
  · rw [e]
  · rw [show k = s.size + 1 by omega, plain.psum_past _ _ (by simp)]
theorem sumOf_end (s : ByteArray) (m : Nat) (h : m ≤ 65535) (hm : plain.fold16 m = plain.fold16 (plain.psum s.data.toList s.size)) : (65535 - (m : Int)) = ((plain.sumOf s.data.toList : Nat) : Int) := by
  have e : plain.sumOf s.data.toList = 65535 - m := by
    unfold plain.sumOf
    rw [show s.data.toList.length = s.size from by simp, ← hm, plain.fold16_id m h]
  rw [e]; omega

end Go.Proofs.YtgpojbgjfibblaaGreat.bits

namespace Go.Proofs.YtgpojbgjfibblaaGreat.bits
open Go.RowKit
set_option linter.unusedVariables false

theorem infoB : (Tryz.prog.info? 4).map (fun i => (i.zero, i.size, i.bytes)) = some (some (.bool false), 1, 1) := by kernel_rfl

theorem bitI (X : Nat) : ((X : Int) % 2 == 1) = (X % 2 == 1) := by
  rcases Nat.mod_two_eq_zero_or_one X with h | h
  · rw [h, show ((X : Int) % 2) = 0 by omega]; rfl
  · rw [h, show ((X : Int) % 2) = 1 by omega]; rfl

/-- one bit more: what the append leaves -/
theorem bits_more {B : Nat} {w wr w1 : World} {v v' : Value} {l : List Bool} {n : Nat} {x X j : Nat} {o : Obj}
    (hj : j < 8) (hX : X = x / 2 ^ j) (hbel : Below B w wr) (hB : B ≤ wr.heap.size)
    (hown : wr.ownsRow B 4 1 v n ((l ++ (plain.byteBits x).take j).map Value.bool))
    (hown1 : w1.ownsRow B 4 1 v' (n + 1) ((l ++ (plain.byteBits x).take j).map Value.bool ++ [.bool ((X : Int) % 2 == 1)])) (hg : (wr.alloc o).grownBy w1 v.ownBlock) :
    w1.ownsRow B 4 1 v' (n + 1) ((l ++ (plain.byteBits x).take (j + 1)).map Value.bool) ∧ Below B w w1 ∧ B ≤ w1.heap.size := by
  have hb1 : Below B w w1 := (hbel.alloc hB o).grown hg (by simp; omega) (fun k hk => (hown.lt k hk).1)
  refine ⟨?_, hb1, ?_⟩
  · rw [plain.byteBits_take x j hj, ← hX, ← bitI]
    simpa using hown1
  · have := hg.size
    simp at this
    omega

theorem bits_byte {B : Nat} {wr : World} {v : Value} {s : ByteArray} {k : Nat} (hlt : k < s.size)
    (hown : wr.ownsRow B 4 1 v (8 * k + 8) ((plain.bitsOf (s.data.toList.take k) ++ (plain.byteBits s[k].toNat).take 8).map Value.bool)) :
    wr.ownsRow B 4 1 v (8 * (k + 1)) ((plain.bitsOf (s.data.toList.take (k + 1))).map Value.bool) := by
  rw [take_snoc s k hlt, plain.bitsOf_snoc]
  rw [List.take_of_length_le (l := plain.byteBits s[k].toNat) (by rw [plain.byteBits_length]; exact Nat.le_refl _)] at hown
  exact hown

set_option maxHeartbeats 1000000 in
set_option maxRecDepth 100000 in
theorem rbits_any (s : ByteArray) (w : World) (hs : s.size ≤ 1048576) :
    Calls Tryz.prog 113 #[.string s] w fun e w' => ∃ v, e = .returned v ∧ w'.ownsRow w.heap.size 4 1 v (8 * s.size) ((plain.bitsOf s.data.toList).map Value.bool) ∧ Below w.heap.size w w' := by
  obtain ⟨i0, hi, hz0, hz1, hz2⟩ := info_parts infoB
  obtain ⟨B, hB⟩ : ∃ B, B = w.heap.size := ⟨_, rfl⟩
  rw [← hB]
  have HB := hide hB
  clear hB
  go_enter Tryz.func113, Tryz.ntmps113
  go_wp2_with fail
  go_loopw [3, 4] (fun v i wr => ∃ k : Nat, k ≤ s.size ∧ i = .int .i64 k ∧ wr.ownsRow B 4 1 v (8 * k) ((plain.bitsOf (s.data.toList.take k)).map Value.bool) ∧ Below B w wr ∧ B ≤ wr.heap.size) (fun _ i _ => s.size - (intOf i).toNat)
  case atStart => exact ⟨0, Nat.zero_le _, rfl, World.ownsRow_nil _ _ _ _, Below.refl _ _, by rw [unhide HB]; exact Nat.le_refl _⟩
  case round =>
    obtain ⟨k, hk, rfl, hown, hbel, hsz⟩ := hrel
    by_cases hlt : k < s.size
    · have hb := s[k].toNat_lt
      have HO := hide hown
      have HBL := hide hbel
      clear hown hbel
      go_wp2_with fail
      go_loopw [3, 5, 6] (fun v b j wq => ∃ q : Nat, q ≤ 8 ∧ j = .int .i64 q ∧ b = .int .i64 (s[k].toNat / 2 ^ q : Nat) ∧ wq.ownsRow B 4 1 v (8 * k + q) ((plain.bitsOf (s.data.toList.take k) ++ (plain.byteBits s[k].toNat).take q).map Value.bool) ∧ Below B w wq ∧ B ≤ wq.heap.size) (fun _ _ j _ => 8 - (intOf j).toNat)
      case atStart => exact ⟨0, by omega, rfl, by simp, by simpa using unhide HO, unhide HBL, hsz⟩
      case round =>
        obtain ⟨q, hq, rfl, rfl, hown, hbel, hszq⟩ := hrel
        clear HO HBL hsz
        by_cases hlt2 : q < 8
        · have hd := hide (show s[k].toNat / 2 ^ (q + 1) = s[k].toNat / 2 ^ q / 2 by rw [Nat.pow_succ, Nat.div_div_eq_div_mul])
          have hX : s[k].toNat / 2 ^ q < 256 := Nat.lt_of_le_of_lt (Nat.div_le_self _ _) hb
          generalize hXX : s[k].toNat / 2 ^ q = X at *
          have HXX := hide hXX
          clear hXX
          have HBL := hide hbel
          clear hbel
          go_wp2_with (at_builtin; refine wpList_append_own _ rfl _ _ 188 rfl B 4 i0 (.bool false) 1 1 Tryz.underlying188 hi hz0 hz1 hz2 rfl (by decide) _ _ _ rfl (hown.alloc _) ⟨wr.heap.size, 0, none⟩ 1 1 [.bool ((X : Int) % 2 == 1)] rfl rfl ?c1 ?c2 ?c3 ?c4 ?c5 ?_)
          case c1 =>
            intro j u hj
            match j, hj with
            | 0, hj => simp at hj; subst hj; simp [Addr.add]
          case c2 => intro u hu; simp at hu; subst hu; rfl
          case c3 => unfold maxLen; omega
          case c4 => omega
          case c5 => simp; omega
          · intro v' w1 hown1 hgrow _
            obtain ⟨R1, R2, R3⟩ := bits_more hlt2 (unhide HXX).symm (unhide HBL) hszq hown (by simpa using hown1) hgrow
            clear hown hown1 hgrow HBL hszq
            have H1 := hide R1
            have H2 := hide R2
            clear R1 R2
            go_wp2
            go_roundw
            case rel => exact ⟨q + 1, by omega, by go_num, by rw [unhide hd]; go_num, unhide H1, unhide H2, R3⟩
            case measure => simp [intOf]; omega
        · have e : q = 8 := by omega
          subst e
          have hown2 := bits_byte hlt hown
          have HO := hide hown2
          have HBL := hide hbel
          clear hown hown2 hbel
          go_wp2
          go_roundw
          case rel => exact ⟨k + 1, by omega, by go_num, unhide HO, unhide HBL, hszq⟩
          case measure => simp [intOf]; omega
    · have e : k = s.size := by omega
      subst e
      rw [List.take_of_length_le (by simp)] at hown
      have HO := hide hown
      have HBL := hide hbel
      clear hown hbel
      go_wp2_with fail
      go_ret
      exact ⟨_, rfl, unhide HO, unhide HBL⟩

end Go.Proofs.YtgpojbgjfibblaaGreat.bits
