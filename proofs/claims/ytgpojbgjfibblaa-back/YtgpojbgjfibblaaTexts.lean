/-
  Texts as lists of bytes; the walks of the document's Bytes and Number (package gistref).
  Conditions stand in each theorem.
-/
import Derived.Test.YtgpojbgjfibblaaProg
import Derived.WalkKit
import Derived.WalkSpells
import Derived.WalkLawsBesides
namespace Go.Proofs.Ytgpojbgjfibblaa.texts
open Go.RowKit
set_option linter.unusedVariables false

theorem hide {p : Prop} (h : p) : Hid p := h
theorem unhide {p : Prop} (h : Hid p) : p := h
theorem ret_int {k : IntKind} {a b : Int} (h : a = b) : Ending.returned (.int k a) = .returned (.int k b) := by rw [h]
theorem ret_str {a b : ByteArray} (h : a = b) : Ending.returned (.string a) = .returned (.string b) := by rw [h]

/-- a text of a list of bytes -/
def bs (l : List UInt8) : ByteArray := ⟨l.toArray⟩
theorem bs_size (l : List UInt8) : (bs l).size = l.length := by simp [bs, ByteArray.size]
theorem bs_append (a b : List UInt8) : bs a ++ bs b = bs (a ++ b) := by
  apply ByteArray.ext
  simp [bs]
theorem bs_list (l : List UInt8) : (bs l).data.toList = l := by simp [bs]
theorem bs_toList (l : List UInt8) : (bs l).toList = l := ByteArray.toList_mk l
theorem bs_inj {a b : List UInt8} (h : bs a = bs b) : a = b := by rw [← bs_list a, h, bs_list]
theorem bs_of (s : ByteArray) : bs s.data.toList = s := by
  apply ByteArray.ext
  simp [bs]

/-- a number in k bytes, the highest first -/
def be : Nat → Nat → List UInt8
  | _, 0 => []
  | n, k + 1 => be (n / 256) k ++ [UInt8.ofNat (n % 256)]
theorem be_length (n k : Nat) : (be n k).length = k := by
  induction k generalizing n with
  | zero => rfl
  | succ k ih => simp [be, ih]

/-- 'string([]byte{x})': the text of one byte -/
theorem one_byte (w : World) (x : Int) (m : Nat) (h0 : x = m) (h1 : m < 256) :
    (convert 61 9 (.slice (some ⟨w.heap.size, 0, none⟩) 1 1)).run Try.prog (w.alloc (.cells #[.int .u8 x] 5)) = .ok (.string (bs [UInt8.ofNat m])) (w.alloc (.cells #[.int .u8 x] 5)) := by
  have h := run_convert_bytes_back (P := Try.prog) (w.alloc (.cells #[.int .u8 x] 5)) 61 9 5 ⟨w.heap.size, 0, none⟩ 1 [UInt8.ofNat m] Try.underlying61 Try.underlying5 Try.underlying9 (fun j hj => by
    have e : j = 0 := by simpa using hj
    subst e
    subst h0
    simp [Addr.add]
    omega)
  exact h

set_option maxHeartbeats 400000 in
theorem bytes_any (n k : Int) (w : World) (h0 : 0 ≤ n) (h1 : n ≤ 1099511627776) (k0 : 0 ≤ k) (k1 : k ≤ 8) :
    Calls Try.prog 58 #[.int .i64 n, .int .i64 k] w fun e w' => e = .returned (.string (bs (be n.toNat k.toNat))) ∧ Below w.heap.size w w' := by
  obtain ⟨n, rfl⟩ := Int.eq_ofNat_of_zero_le h0
  obtain ⟨k, rfl⟩ := Int.eq_ofNat_of_zero_le k0
  rw [Int.toNat_natCast, Int.toNat_natCast]
  obtain ⟨B, hB⟩ : ∃ B, B = w.heap.size := ⟨_, rfl⟩
  rw [← hB]
  have HB := hide hB
  clear hB
  go_enter Try.func58, Try.ntmps58
  go_wp2_with fail
  go_loopw [0, 5, 6] (fun m s i wr => ∃ (j : Nat) (l : List UInt8), j ≤ k ∧ l.length = j ∧ i = .int .i64 j ∧ m = .int .i64 (n / 256 ^ j : Nat) ∧ s = .string (bs l) ∧ be (n / 256 ^ j) (k - j) ++ l = be n k ∧ Below B w wr ∧ B ≤ wr.heap.size) (fun _ _ i _ => k - (intOf i).toNat)
  case atStart => exact ⟨0, [], by omega, rfl, rfl, by simp, rfl, by simp, Below.refl _ _, by rw [unhide HB]; exact Nat.le_refl _⟩
  case round =>
    obtain ⟨j, l, hj, hl, rfl, rfl, rfl, hbe, hbel, hsz⟩ := hrel
    have hN : n / 256 ^ j ≤ n := Nat.div_le_self _ _
    have HL := hide hl
    have HBE := hide hbe
    have HBL := hide hbel
    clear hl hbe hbel
    by_cases hlt : j < k
    · have hq := hide (show n / 256 ^ (j + 1) = n / 256 ^ j / 256 by rw [Nat.pow_succ, Nat.div_div_eq_div_mul])
      have hcut := hide (show k - j = (k - (j + 1)) + 1 by omega)
      have hcv := one_byte wr ((n / 256 ^ j : Nat) % 256) (n / 256 ^ j % 256) (by omega) (by omega)
      generalize n / 256 ^ j = N at *
      have hsz1 : (bs [UInt8.ofNat (N % 256)]).size + (bs l).size ≤ 9 := by rw [bs_size, bs_size, unhide HL]; simp; omega
      go_wp2
      go_roundw
      case rel =>
        have hbe2 := unhide HBE
        rw [unhide hcut] at hbe2
        refine ⟨j + 1, UInt8.ofNat (N % 256) :: l, by omega, by simp [unhide HL], by go_num, by rw [unhide hq]; go_num, ?_, ?_, (unhide HBL).alloc hsz _, by simp; omega⟩
        · rw [bs_append]; rfl
        · rw [unhide hq, ← hbe2]; simp [be]
      case measure => simp [intOf]; omega
    · have e : k = j := by omega
      subst e
      go_wp2
      go_ret
      refine ⟨ret_str ?_, unhide HBL⟩
      have hbe2 := unhide HBE
      rw [Nat.sub_self] at hbe2
      rw [← hbe2]
      rfl

/-- the number of all bytes of a text, the highest first -/
def numOf (l : List UInt8) : Nat := l.foldl (fun n b => 256 * n + b.toNat) 0
theorem numOf_snoc (l : List UInt8) (b : UInt8) : numOf (l ++ [b]) = 256 * numOf l + b.toNat := by simp [numOf]
theorem numOf_lt (l : List UInt8) : numOf l < 256 ^ l.length := by
  have h : ∀ (l : List UInt8) (n : Nat), l.foldl (fun n b => 256 * n + b.toNat) n < (n + 1) * 256 ^ l.length := by
    intro l
    induction l with
    | nil => intro n; simp
    | cons b l ih =>
      intro n
      have hb := b.toNat_lt
      have h1 := ih (256 * n + b.toNat)
      simp only [List.foldl_cons, List.length_cons]
      have h2 : (256 * n + b.toNat + 1) * 256 ^ l.length ≤ ((n + 1) * 256) * 256 ^ l.length := Nat.mul_le_mul_right _ (by omega)
      have h3 : (n + 1) * 256 ^ (l.length + 1) = ((n + 1) * 256) * 256 ^ l.length := by rw [Nat.pow_succ, Nat.mul_assoc, Nat.mul_comm 256]
      omega
  have := h l 0
  simpa [numOf] using this
theorem take_snoc (s : ByteArray) (k : Nat) (h : k < s.size) : s.data.toList.take (k + 1) = s.data.toList.take k ++ [s[k]] := by
  rw [List.take_succ_eq_append_getElem (by simpa using h)]; rfl

set_option maxHeartbeats 400000 in
theorem number_any (s : ByteArray) (w : World) (hs : s.size ≤ 7) :
    Calls Try.prog 94 #[.string s] w fun e w' => e = .returned (.int .i64 (numOf s.data.toList : Nat)) ∧ w' = w := by
  go_enter Try.func94, Try.ntmps94
  go_wp2_with fail
  go_loop [3, 4] (fun m i => ∃ k : Nat, k ≤ s.size ∧ i = .int .i64 k ∧ m = .int .i64 (numOf (s.data.toList.take k) : Nat)) (fun _ i => s.size - (intOf i).toNat)
  case atStart => exact ⟨0, by omega, rfl, rfl⟩
  case round =>
    obtain ⟨k, hk, rfl, rfl⟩ := hrel
    have hN := numOf_lt (s.data.toList.take k)
    have hl : (s.data.toList.take k).length ≤ k := List.length_take_le _ _
    have hp : (256 : Nat) ^ (s.data.toList.take k).length ≤ 256 ^ k := Nat.pow_le_pow_right (by decide) hl
    by_cases hlt : k < s.size
    · have hq : (256 : Nat) ^ k ≤ 256 ^ 6 := Nat.pow_le_pow_right (by decide) (by omega)
      have hq2 : (256 : Nat) ^ 6 = 281474976710656 := by decide
      have hN2 : numOf (s.data.toList.take k) < 281474976710656 := by omega
      have hb := s[k].toNat_lt
      have hsn := hide (numOf_snoc (s.data.toList.take k) s[k])
      have hts := hide (take_snoc s k hlt)
      clear hN hl hp hq hq2
      generalize numOf (s.data.toList.take k) = N at *
      go_wp2
      go_round
      case rel => exact ⟨k + 1, by omega, by go_num, by rw [unhide hts, unhide hsn]; go_num⟩
      case measure => simp [intOf]; omega
    · have e : k = s.size := by omega
      subst e
      clear hN hl hp
      go_wp2
      go_ret
      exact ⟨ret_int (by rw [List.take_of_length_le (by simp)]), rfl⟩

end Go.Proofs.Ytgpojbgjfibblaa.texts
