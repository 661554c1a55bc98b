/-
  Texts as lists of bytes; the walks of the document's Bytes and Number (package gistref). The walks of the document's Head, Rest and Header (package gistref). Packets as values and as texts; the walks of the document's Rest, Header, Flatten, Packet, RouteOf, With (package gistref). The walk of the document's Write (package gistref). The walks of the document's RouteOf, With and Read (package gistref). Small laws on blocks of memory: eight cells written one by one; what stays below a bound. The walk of the document's Read (package gistref) where the text has the length that it tells. The walks of the program's numbers as bytes (package wire): Text8, Text16, Text32, Number. The walk of the program's header as bytes (package wire): Header. A sender in plain numbers: states, contexts, what a packet makes of them, its frame.
  Conditions stand in each theorem.
-/
import Derived.Test.YtgpojbgjfibblabGreatProg
import Derived.WalkKit
import Derived.WalkSpells
import Derived.WalkLawsBesides
import Derived.Deep.RegionHeld3
import Derived.Deep.DrawnRows
import Derived.Test.YtgpojbgjfibblabGreatJoinRefCheck
import Derived.Deep.DeepCutAuto
namespace Go.Proofs.YtgpojbgjfibblabGreat.texts
open Go.RowKit
set_option linter.unusedVariables false

theorem hide {p : Prop} (h : p) : Hid p := h
theorem unhide {p : Prop} (h : Hid p) : p := h
theorem ret_int {k : IntKind} {a b : Int} (h : a = b) : Ending.returned (.int k a) = .returned (.int k b) := by rw [h]
theorem ret_str {a b : ByteArray} (h : a = b) : Ending.returned (.string a) = .returned (.string b) := by rw [h]

/-- a text of a list of bytes -/
def bs (l : List UInt8) : ByteArray := ⟨l.toArray⟩
theorem bs_size (l : List UInt8) : (bs l).size = l.length := by simp [bs, ByteArray.size]
theorem bs_append (a b : List UInt8) : bs a ++ bs b = bs (a ++ b) := by
  apply ByteArray.ext
  simp [bs]
theorem bs_list (l : List UInt8) : (bs l).data.toList = l := by simp [bs]
theorem bs_toList (l : List UInt8) : (bs l).toList = l := ByteArray.toList_mk l
theorem bs_inj {a b : List UInt8} (h : bs a = bs b) : a = b := by rw [← bs_list a, h, bs_list]
theorem bs_of (s : ByteArray) : bs s.data.toList = s := by
  apply ByteArray.ext
  simp [bs]

/-- a number in k bytes, the highest first -/
def be : Nat → Nat → List UInt8
  | _, 0 => []
  | n, k + 1 => be (n / 256) k ++ [UInt8.ofNat (n % 256)]
theorem be_length (n k : Nat) : (be n k).length = k := by
  induction k generalizing n with
  | zero => rfl
  | succ k ih => simp [be, ih]

/-- 'string([]byte{x})': the text of one byte -/
theorem one_byte (w : World) (x : Int) (m : Nat) (h0 : x = m) (h1 : m < 256) :
    (convert 179 9 (.slice (some ⟨w.heap.size, 0, none⟩) 1 1)).run Tryz.prog (w.alloc (.cells #[.int .u8 x] 5)) = .ok (.string (bs [UInt8.ofNat m])) (w.alloc (.cells #[.int .u8 x] 5)) := by
  have h := run_convert_bytes_back (P := Tryz.prog) (w.alloc (.cells #[.int .u8 x] 5)) 179 9 5 ⟨w.heap.size, 0, none⟩ 1 [UInt8.ofNat m] Tryz.underlying179 Tryz.underlying5 Tryz.underlying9 (fun j hj => by
    have e : j = 0 := by simpa using hj
    subst e
    subst h0
    simp [Addr.add]
    omega)
  exact h

set_option maxHeartbeats 400000 in
theorem bytes_any (n k : Int) (w : World) (h0 : 0 ≤ n) (h1 : n ≤ 1099511627776) (k0 : 0 ≤ k) (k1 : k ≤ 8) :
    Calls Tryz.prog 81 #[.int .i64 n, .int .i64 k] w fun e w' => e = .returned (.string (bs (be n.toNat k.toNat))) ∧ Below w.heap.size w w' := by
  obtain ⟨n, rfl⟩ := Int.eq_ofNat_of_zero_le h0
  obtain ⟨k, rfl⟩ := Int.eq_ofNat_of_zero_le k0
  rw [Int.toNat_natCast, Int.toNat_natCast]
  obtain ⟨B, hB⟩ : ∃ B, B = w.heap.size := ⟨_, rfl⟩
  rw [← hB]
  have HB := hide hB
  clear hB
  go_enter Tryz.func81, Tryz.ntmps81
  go_wp2_with fail
  go_loopw [0, 5, 6] (fun m s i wr => ∃ (j : Nat) (l : List UInt8), j ≤ k ∧ l.length = j ∧ i = .int .i64 j ∧ m = .int .i64 (n / 256 ^ j : Nat) ∧ s = .string (bs l) ∧ be (n / 256 ^ j) (k - j) ++ l = be n k ∧ Below B w wr ∧ B ≤ wr.heap.size) (fun _ _ i _ => k - (intOf i).toNat)
  case atStart => exact ⟨0, [], by omega, rfl, rfl, by simp, rfl, by simp, Below.refl _ _, by rw [unhide HB]; exact Nat.le_refl _⟩
  case round =>
    obtain ⟨j, l, hj, hl, rfl, rfl, rfl, hbe, hbel, hsz⟩ := hrel
    have hN : n / 256 ^ j ≤ n := Nat.div_le_self _ _
    have HL := hide hl
    have HBE := hide hbe
    have HBL := hide hbel
    clear hl hbe hbel
    by_cases hlt : j < k
    · have hq := hide (show n / 256 ^ (j + 1) = n / 256 ^ j / 256 by rw [Nat.pow_succ, Nat.div_div_eq_div_mul])
      have hcut := hide (show k - j = (k - (j + 1)) + 1 by omega)
      have hcv := one_byte wr ((n / 256 ^ j : Nat) % 256) (n / 256 ^ j % 256) (by omega) (by omega)
      generalize n / 256 ^ j = N at *
      have hsz1 : (bs [UInt8.ofNat (N % 256)]).size + (bs l).size ≤ 9 := by rw [bs_size, bs_size, unhide HL]; simp; omega
      go_wp2
      go_roundw
      case rel =>
        have hbe2 := unhide HBE
        rw [unhide hcut] at hbe2
        refine ⟨j + 1, UInt8.ofNat (N % 256) :: l, by omega, by simp [unhide HL], by go_num, by rw [unhide hq]; go_num, ?_, ?_, (unhide HBL).alloc hsz _, by simp; omega⟩
        · rw [bs_append]; rfl
        · rw [unhide hq, ← hbe2]; simp [be]
      case measure => simp [intOf]; omega
    · have e : k = j := by omega
      subst e
      go_wp2
      go_ret
      refine ⟨ret_str ?_, unhide HBL⟩
      have hbe2 := unhide HBE
      rw [Nat.sub_self] at hbe2
      rw [← hbe2]
      rfl

/-- the number of all bytes of a text, the highest first -/
def numOf (l : List UInt8) : Nat := l.foldl (fun n b => 256 * n + b.toNat) 0
theorem numOf_snoc (l : List UInt8) (b : UInt8) : numOf (l ++ [b]) = 256 * numOf l + b.toNat := by simp [numOf]
theorem numOf_lt (l : List UInt8) : numOf l < 256 ^ l.length := by
  have h : ∀ (l : List UInt8) (n : Nat), l.foldl (fun n b => 256 * n + b.toNat) n < (n + 1) * 256 ^ l.length := by
    intro l
    induction l with
    | nil => intro n; simp
    | cons b l ih =>
      intro n
      have hb := b.toNat_lt
      have h1 := ih (256 * n + b.toNat)
      simp only [List.foldl_cons, List.length_cons]
      have h2 : (256 * n + b.toNat + 1) * 256 ^ l.length ≤ ((n + 1) * 256) * 256 ^ l.length := Nat.mul_le_mul_right _ (by omega)
      have h3 : (n + 1) * 256 ^ (l.length + 1) = ((n + 1) * 256) * 256 ^ l.length := by rw [Nat.pow_succ, Nat.mul_assoc, Nat.mul_comm 256]
      omega
  have := h l 0
  simpa [numOf] using this
theorem take_snoc (s : ByteArray) (k : Nat) (h : k < s.size) : s.data.toList.take (k + 1) = s.data.toList.take k ++ [s[k]] := by
  rw [List.take_succ_eq_append_getElem (by simpa using h)]; rfl

set_option maxHeartbeats 400000 in
theorem number_any (s : ByteArray) (w : World) (hs : s.size ≤ 7) :
    Calls Tryz.prog 95 #[.string s] w fun e w' => e = .returned (.int .i64 (numOf s.data.toList : Nat)) ∧ w' = w := by
  go_enter Tryz.func95, Tryz.ntmps95
  go_wp2_with fail
  go_loop [3, 4] (fun m i => ∃ k : Nat, k ≤ s.size ∧ i = .int .i64 k ∧ m = .int .i64 (numOf (s.data.toList.take k) : Nat)) (fun _ i => s.size - (intOf i).toNat)
  case atStart => exact ⟨0, by omega, rfl, rfl⟩
  case round =>
    obtain ⟨k, hk, rfl, rfl⟩ := hrel
    have hN := numOf_lt (s.data.toList.take k)
    have hl : (s.data.toList.take k).length ≤ k := List.length_take_le _ _
    have hp : (256 : Nat) ^ (s.data.toList.take k).length ≤ 256 ^ k := Nat.pow_le_pow_right (by decide) hl
    by_cases hlt : k < s.size
    · have hq : (256 : Nat) ^ k ≤ 256 ^ 6 := Nat.pow_le_pow_right (by decide) (by omega)
      have hq2 : (256 : Nat) ^ 6 = 281474976710656 := by decide
      have hN2 : numOf (s.data.toList.take k) < 281474976710656 := by omega
      have hb := s[k].toNat_lt
      have hsn := hide (numOf_snoc (s.data.toList.take k) s[k])
      have hts := hide (take_snoc s k hlt)
      clear hN hl hp hq hq2
      generalize numOf (s.data.toList.take k) = N at *
      go_wp2
      go_round
      case rel => exact ⟨k + 1, by omega, by go_num, by rw [unhide hts, unhide hsn]; go_num⟩
      case measure => simp [intOf]; omega
    · have e : k = s.size := by omega
      subst e
      clear hN hl hp
      go_wp2
      go_ret
      exact ⟨ret_int (by rw [List.take_of_length_le (by simp)]), rfl⟩

end Go.Proofs.YtgpojbgjfibblabGreat.texts

namespace Go.Proofs.YtgpojbgjfibblabGreat.texts
open Go.RowKit
set_option linter.unusedVariables false
attribute [local go_sem ↓] Go.wp_at_zero Go.wp_at_succ
attribute [local go_sem] bs_size be_length bs_append List.length_append

/-- the ten bytes of a route -/
def headL (src dst port : Nat) : List UInt8 := be src 4 ++ be dst 4 ++ be port 2

theorem keep_cell {w1 w2 : World} {a : Addr} {v : Value} (h : w1.cell? a = some v) (hb : Below w1.heap.size w1 w2) : w2.cell? a = some v := by
  have hlt : a.block < w1.heap.size := by
    by_cases h2 : a.block < w1.heap.size
    · exact h2
    · simp [World.cell?, Array.getElem?_eq_none (Nat.le_of_not_lt h2)] at h
  rw [hb.cell hlt]; exact h

theorem wrap_id {a : Int} (h0 : 0 ≤ a) (h1 : a ≤ 4294967295) : IntKind.i64.wrap a = a := by
  simp [IntKind.wrap, IntKind.bits, IntKind.signed]; omega
theorem keep_below {B : Nat} {w w1 w2 : World} (h : Below B w w1) (hb : Below w1.heap.size w1 w2) (hs : B ≤ w1.heap.size) : Below B w w2 := h.trans (hb.mono hs)

set_option maxHeartbeats 1000000 in
theorem head_any (a b c : Int) (w : World) (ha : 0 ≤ a) (ha' : a ≤ 4294967295) (hb : 0 ≤ b) (hb' : b ≤ 4294967295) (hc : 0 ≤ c) (hc' : c ≤ 65535) :
    Calls Tryz.prog 109 #[.agg #[.int .u32 a, .int .u32 b, .int .u16 c]] w fun e w' => e = .returned (.string (bs (headL a.toNat b.toNat c.toNat))) ∧ Below w.heap.size w w' := by
  have wa := wrap_id ha ha'
  have wb := wrap_id hb hb'
  have wc := wrap_id hc (by omega : c ≤ 4294967295)
  go_enter Tryz.func109, Tryz.ntmps109
  go_wp2_with fail
  go_region_held3 (fun w' => w'.cell? ⟨w.heap.size, 0, none⟩ = some (.int .u32 a) ∧ w'.cell? ⟨w.heap.size, 1, none⟩ = some (.int .u32 b) ∧ w'.cell? ⟨w.heap.size, 2, none⟩ = some (.int .u16 c) ∧ Below w.heap.size w w' ∧ w.heap.size ≤ w'.heap.size)
    (first | (go_keep; done) | (refine ⟨by simp, by simp, by simp, ((Below.refl _ _).alloc (Nat.le_refl _) _).drew, by simp⟩) | (go_split_ands; exact ⟨keep_cell (by assumption) hbel, keep_cell (by assumption) hbel, keep_cell (by assumption) hbel, keep_below (by assumption) hbel (by assumption), Nat.le_trans (by assumption) hbel.size⟩))
    ((go_at_call 81; refine (bytes_any _ _ _ (by omega) (by omega) (by omega) (by omega)).mono ?_; rintro e w' ⟨rfl, hbel⟩))
  all_goals go_split_ands
  all_goals go_wp2
  all_goals go_ret
  all_goals exact ⟨rfl, by assumption⟩

end Go.Proofs.YtgpojbgjfibblabGreat.texts

namespace Go.Proofs.YtgpojbgjfibblabGreat.texts
open Go.RowKit
set_option linter.unusedVariables false
attribute [local go_sem ↓] Go.wp_at_zero Go.wp_at_succ
attribute [local go_sem] bs_size be_length bs_append List.length_append

/-- a packet -/
structure Pk where
  src : Nat
  dst : Nat
  port : Nat
  seq : Nat
  time : Nat
  id : Nat
  flags : Nat
  body : List UInt8

/-- its numbers have their widths -/
structure Pk.ok (p : Pk) : Prop where
  src : p.src < 4294967296
  dst : p.dst < 4294967296
  port : p.port < 65536
  seq : p.seq < 65536
  time : p.time < 4294967296
  id : p.id < 65536
  flags : p.flags < 256

/-- its cells, as api.Packet and as gistref.Flat -/
def Pk.cells (p : Pk) : Array Value := #[.int .u32 p.src, .int .u32 p.dst, .int .u16 p.port, .int .u16 p.seq, .int .u32 p.time, .int .u16 p.id, .int .u8 p.flags, .string (bs p.body)]
def Pk.flat (p : Pk) : Array Value := #[.int .u32 p.src, .int .u32 p.dst, .int .u16 p.port, .int .i64 p.seq, .int .i64 p.time, .int .i64 p.id, .int .i64 p.flags, .string (bs p.body)]

def restL (p : Pk) : List UInt8 := be p.seq 2 ++ be p.time 4 ++ be p.id 2 ++ be p.flags 1
def hdrL (p : Pk) : List UInt8 := headL p.src p.dst p.port ++ restL p
theorem headL_length (a b c : Nat) : (headL a b c).length = 10 := by simp [headL, be_length]
theorem restL_length (p : Pk) : (restL p).length = 9 := by simp [restL, be_length]
theorem hdrL_length (p : Pk) : (hdrL p).length = 19 := by simp [hdrL, headL_length, restL_length]

attribute [local go_sem] headL_length restL_length hdrL_length

set_option maxHeartbeats 1000000 in
theorem rest_any (p : Pk) (w : World) (hp : p.ok) :
    Calls Tryz.prog 84 #[.agg p.flat] w fun e w' => e = .returned (.string (bs (restL p))) ∧ Below w.heap.size w w' := by
  obtain ⟨h1, h2, h3, h4, h5, h6, h7⟩ := hp
  unfold Pk.flat
  go_enter Tryz.func84, Tryz.ntmps84
  go_wp2_with fail
  go_region_held3 (fun w' => w'.cell? ⟨w.heap.size, 3, none⟩ = some (.int .i64 p.seq) ∧ w'.cell? ⟨w.heap.size, 4, none⟩ = some (.int .i64 p.time) ∧ w'.cell? ⟨w.heap.size, 5, none⟩ = some (.int .i64 p.id) ∧ w'.cell? ⟨w.heap.size, 6, none⟩ = some (.int .i64 p.flags) ∧ Below w.heap.size w w' ∧ w.heap.size ≤ w'.heap.size)
    (first | (go_keep; done) | (refine ⟨by simp, by simp, by simp, by simp, ((Below.refl _ _).alloc (Nat.le_refl _) _).drew, by simp⟩) | (go_split_ands; exact ⟨keep_cell (by assumption) hbel, keep_cell (by assumption) hbel, keep_cell (by assumption) hbel, keep_cell (by assumption) hbel, keep_below (by assumption) hbel (by assumption), Nat.le_trans (by assumption) hbel.size⟩))
    ((go_at_call 81; refine (bytes_any _ _ _ (by omega) (by omega) (by omega) (by omega)).mono ?_; rintro e w' ⟨rfl, hbel⟩))
  all_goals go_split_ands
  all_goals go_wp2
  all_goals go_ret
  all_goals exact ⟨rfl, by assumption⟩

set_option maxHeartbeats 1000000 in
theorem header_any (p : Pk) (w : World) (hp : p.ok) :
    Calls Tryz.prog 82 #[.agg p.flat] w fun e w' => e = .returned (.string (bs (hdrL p))) ∧ Below w.heap.size w w' := by
  have Hp := hide hp
  obtain ⟨h1, h2, h3, h4, h5, h6, h7⟩ := hp
  unfold Pk.flat
  go_enter Tryz.func82, Tryz.ntmps82
  go_wp2_with fail
  go_region_held3 (fun w' => w'.cell? ⟨w.heap.size, 0, none⟩ = some (.int .u32 p.src) ∧ w'.cell? ⟨w.heap.size, 1, none⟩ = some (.int .u32 p.dst) ∧ w'.cell? ⟨w.heap.size, 2, none⟩ = some (.int .u16 p.port) ∧ w'.cell? ⟨w.heap.size, 3, none⟩ = some (.int .i64 p.seq) ∧ w'.cell? ⟨w.heap.size, 4, none⟩ = some (.int .i64 p.time) ∧ w'.cell? ⟨w.heap.size, 5, none⟩ = some (.int .i64 p.id) ∧ w'.cell? ⟨w.heap.size, 6, none⟩ = some (.int .i64 p.flags) ∧ w'.cell? ⟨w.heap.size, 7, none⟩ = some (.string (bs p.body)) ∧ Below w.heap.size w w' ∧ w.heap.size ≤ w'.heap.size)
    (first | (go_keep; done) | (refine ⟨by simp, by simp, by simp, by simp, by simp, by simp, by simp, by simp, ((Below.refl _ _).alloc (Nat.le_refl _) _).drew, by simp⟩) | (go_split_ands; exact ⟨keep_cell (by assumption) hbel, keep_cell (by assumption) hbel, keep_cell (by assumption) hbel, keep_cell (by assumption) hbel, keep_cell (by assumption) hbel, keep_cell (by assumption) hbel, keep_cell (by assumption) hbel, keep_cell (by assumption) hbel, keep_below (by assumption) hbel (by assumption), Nat.le_trans (by assumption) hbel.size⟩))
    ((first | (go_at_call 109; refine (head_any _ _ _ _ (by omega) (by omega) (by omega) (by omega) (by omega) (by omega)).mono ?_; rintro e w' ⟨rfl, hbel⟩) | (go_at_call 84; refine (rest_any p _ (unhide Hp)).mono ?_; rintro e w' ⟨rfl, hbel⟩)))
  all_goals go_split_ands
  all_goals go_wp2
  all_goals go_ret
  all_goals exact ⟨rfl, by assumption⟩

set_option maxHeartbeats 1000000 in
theorem flatten_any (p : Pk) (w : World) (hp : p.ok) :
    Calls Tryz.prog 43 #[.agg p.cells] w fun e w' => e = .returned (.agg p.flat) ∧ Below w.heap.size w w' := by
  obtain ⟨h1, h2, h3, h4, h5, h6, h7⟩ := hp
  unfold Pk.cells Pk.flat
  go_enter Tryz.func43, Tryz.ntmps43
  go_wp2
  exact bodyPost_ret (v := .agg p.flat) (by simp [results, Tryz.results43, go_sem, Pk.flat]) rfl ⟨rfl, ((Below.refl _ _).alloc (Nat.le_refl _) _).alloc (by simp) _⟩

theorem wrap16 {n : Nat} (h : n < 65536) : IntKind.u16.wrap (n : Int) = n := by rw [IntKind.wrap_u16]; omega
theorem wrap8 {n : Nat} (h : n < 256) : IntKind.u8.wrap (n : Int) = n := by rw [IntKind.wrap_u8']; omega

set_option maxHeartbeats 1000000 in
theorem packet_any (p : Pk) (w : World) (hp : p.ok) :
    Calls Tryz.prog 59 #[.agg p.flat] w fun e w' => e = .returned (.agg p.cells) ∧ Below w.heap.size w w' := by
  obtain ⟨h1, h2, h3, h4, h5, h6, h7⟩ := hp
  have e1 := wrap16 h4
  have e2 := wrap16 h6
  have e3 := wrap8 h7
  unfold Pk.cells Pk.flat
  go_enter Tryz.func59, Tryz.ntmps59
  go_wp2
  exact bodyPost_ret (v := .agg p.cells) (by simp [results, Tryz.results59, go_sem, Pk.cells]) rfl ⟨rfl, ((Below.refl _ _).alloc (Nat.le_refl _) _).alloc (by simp) _⟩


end Go.Proofs.YtgpojbgjfibblabGreat.texts

namespace Go.Proofs.YtgpojbgjfibblabGreat.texts
open Go.RowKit
set_option linter.unusedVariables false
attribute [local go_sem ↓] Go.wp_at_zero Go.wp_at_succ
attribute [local go_sem] bs_size be_length bs_append List.length_append headL_length restL_length hdrL_length

/-- a packet's text, ahead of the sum; the text -/
def bareL (p : Pk) : List UInt8 := hdrL p ++ (be p.body.length 1 ++ p.body)
def textL (p : Pk) : List UInt8 := bareL p ++ be (plain.sumOf (bareL p)) 2
theorem bareL_length (p : Pk) : (bareL p).length = 20 + p.body.length := by simp [bareL, hdrL_length, be_length]; omega

theorem ret_si {a b : ByteArray} {c d : Int} (h : a = b) (g : c = d) : Ending.returned (.tuple #[.string a, .int .i64 c]) = .returned (.tuple #[.string b, .int .i64 d]) := by rw [h, g]

/-- what Write answers -/
def writeR (p : Pk) : List UInt8 := if p.body.length ≤ 100 then textL p else []
def writeE (p : Pk) : Int := if p.body.length ≤ 100 then 0 else 2
end Go.Proofs.YtgpojbgjfibblabGreat.texts

namespace Go.Proofs.YtgpojbgjfibblabGreat.texts
open Go.RowKit
set_option linter.unusedVariables false

theorem bs_extract (l : List UInt8) (a b : Nat) : (bs l).extract a b = bs ((l.take b).drop a) := by
  apply ByteArray.ext
  rw [ByteArray.data_extract]
  apply Array.ext'
  simp [bs, List.extract_eq_take_drop, List.drop_take]

theorem wrap32 {n : Nat} (h : n < 4294967296) : IntKind.u32.wrap (n : Int) = n := by rw [IntKind.wrap_u32']; omega
theorem numOf_lt' {l : List UInt8} (k : Nat) (h : l.length ≤ k) : numOf l < 256 ^ k := Nat.lt_of_lt_of_le (numOf_lt l) (Nat.pow_le_pow_right (by decide) h)

attribute [local go_sem ↓] Go.wp_at_zero Go.wp_at_succ
attribute [local go_sem] bs_size be_length bs_append List.length_append headL_length restL_length hdrL_length bs_extract bs_list

set_option maxHeartbeats 1000000 in
theorem routeOf_any (l : List UInt8) (w : World) (hl : l.length = 10) :
    Calls Tryz.prog 93 #[.string (bs l)] w fun e w' => e = .returned (.agg #[.int .u32 (numOf (l.take 4) : Nat), .int .u32 (numOf ((l.take 8).drop 4) : Nat), .int .u16 (numOf ((l.take 10).drop 8) : Nat)]) ∧ Below w.heap.size w w' := by
  have e1 : IntKind.u32.wrap ((numOf (l.take 4) : Nat) : Int) = (numOf (l.take 4) : Nat) := wrap32 (numOf_lt' 4 (by simp; omega))
  have e2 : IntKind.u32.wrap ((numOf ((l.take 8).drop 4) : Nat) : Int) = (numOf ((l.take 8).drop 4) : Nat) := wrap32 (numOf_lt' 4 (by simp; omega))
  have e3 : IntKind.u16.wrap ((numOf ((l.take 10).drop 8) : Nat) : Int) = (numOf ((l.take 10).drop 8) : Nat) := wrap16 (numOf_lt' 2 (by simp; omega))
  go_enter Tryz.func93, Tryz.ntmps93
  go_wp2_with fail
  go_region_held3 (fun _ => True) (trivial)
    ((go_at_call 95; refine (number_any _ _ (by rw [bs_size]; simp; omega)).mono ?_; rintro e w' ⟨rfl, rfl⟩))
  all_goals go_wp2
  all_goals exact bodyPost_ret (v := .agg #[.int .u32 (numOf (l.take 4) : Nat), .int .u32 (numOf ((l.take 8).drop 4) : Nat), .int .u16 (numOf ((l.take 10).drop 8) : Nat)]) (by simp [results, Tryz.results93, go_sem]) rfl ⟨rfl, ((Below.refl _ _).alloc (Nat.le_refl _) _).drew⟩

/-- a packet whose numbers stand in nine bytes -/
def withP (a b c : Nat) (l body : List UInt8) : Pk :=
  { src := a, dst := b, port := c, seq := numOf (l.take 2), time := numOf ((l.take 6).drop 2), id := numOf ((l.take 8).drop 6), flags := numOf ((l.take 9).drop 8), body := body }

set_option maxHeartbeats 1000000 in
theorem with_any (a b c : Nat) (l body : List UInt8) (w : World) (hl : l.length = 9) :
    Calls Tryz.prog 94 #[.agg #[.int .u32 a, .int .u32 b, .int .u16 c], .string (bs l), .string (bs body)] w fun e w' => e = .returned (.agg (withP a b c l body).flat) ∧ Below w.heap.size w w' := by
  unfold withP Pk.flat
  go_enter Tryz.func94, Tryz.ntmps94
  go_wp2_with fail
  go_region_held3 (fun w' => w'.cell? ⟨w.heap.size, 0, none⟩ = some (.int .u32 a) ∧ w'.cell? ⟨w.heap.size, 1, none⟩ = some (.int .u32 b) ∧ w'.cell? ⟨w.heap.size, 2, none⟩ = some (.int .u16 c)) (first | (go_keep; done) | (simp; done))
    ((go_at_call 95; refine (number_any _ _ (by rw [bs_size]; simp; omega)).mono ?_; rintro e w' ⟨rfl, rfl⟩))
  all_goals go_wp2
  all_goals exact bodyPost_ret (v := .agg (withP a b c l body).flat) (by simp [results, Tryz.results94, go_sem, withP, Pk.flat]) rfl ⟨rfl, (((Below.refl _ _).alloc (Nat.le_refl _) _).alloc (by simp) _).drew⟩

/-- a packet of noughts -/
def zeroP : Pk := { src := 0, dst := 0, port := 0, seq := 0, time := 0, id := 0, flags := 0, body := [] }
/-- byte 19; the packet that a text seems to tell; what Read answers -/
def at19 (l : List UInt8) : Nat := (l[19]?.getD 0).toNat
def seemP (l : List UInt8) : Pk :=
  withP (numOf ((l.take 10).take 4)) (numOf (((l.take 10).take 8).drop 4)) (numOf (((l.take 10).take 10).drop 8)) ((l.take 19).drop 10) ((l.take (20 + at19 l)).drop 20)
def readE (l : List UInt8) : Int :=
  if l.length < 22 then 4 else if ¬ l.length = 22 + at19 l then 4 else if 100 < at19 l then 2 else if textL (seemP l) = l then 0 else 5
def readR (l : List UInt8) : Pk := if readE l = 0 then seemP l else zeroP

theorem seem_ok (l : List UInt8) : (seemP l).ok := by
  unfold seemP withP
  constructor
  · exact numOf_lt' 4 (by simp; omega)
  · exact numOf_lt' 4 (by simp; omega)
  · exact numOf_lt' 2 (by simp; omega)
  · exact numOf_lt' 2 (by simp; omega)
  · exact numOf_lt' 4 (by simp; omega)
  · exact numOf_lt' 2 (by simp; omega)
  · exact numOf_lt' 1 (by simp; omega)

theorem readR_bad {l : List UInt8} (h : readE l ≠ 0) : readR l = zeroP := by unfold readR; rw [if_neg h]

theorem at_byte (l : List UInt8) (h : 19 < l.length) : ((bs l)[19]'(by rw [bs_size]; exact h)).toNat = at19 l := by
  unfold at19
  rw [List.getElem?_eq_getElem h]
  rfl

end Go.Proofs.YtgpojbgjfibblabGreat.texts

namespace Go.Proofs.YtgpojbgjfibblabGreat.texts
open Go.RowKit
set_option linter.unusedVariables false

theorem set8 (z : Array Value) (hz : z.size = 8) (a b c d e f i j : Value) :
    (((((((z.setIfInBounds 0 a).setIfInBounds 1 b).setIfInBounds 2 c).setIfInBounds 3 d).setIfInBounds 4 e).setIfInBounds 5 f).setIfInBounds 6 i).setIfInBounds 7 j = #[a, b, c, d, e, f, i, j] := by
  obtain ⟨l⟩ := z
  obtain ⟨x0, x1, x2, x3, x4, x5, x6, x7, rfl⟩ : ∃ x0 x1 x2 x3 x4 x5 x6 x7, l = [x0, x1, x2, x3, x4, x5, x6, x7] := by
    match l, hz with
    | [x0, x1, x2, x3, x4, x5, x6, x7], _ => exact ⟨x0, x1, x2, x3, x4, x5, x6, x7, rfl⟩
  simp only [List.setIfInBounds_toArray, List.set_cons_zero, List.set_cons_succ]

/-- eight cells of a block are written -/
theorem fill8 (w : World) (g : Nat) (z : Array Value) (t : TypeId) (h : w.heap[g]? = some (.cells z t (0, 0))) (hz : z.size = 8) (a b c d e f i j : Value) :
    ((((((((w.setCell ⟨g, 0, none⟩ a).setCell ⟨g, 1, none⟩ b).setCell ⟨g, 2, none⟩ c).setCell ⟨g, 3, none⟩ d).setCell ⟨g, 4, none⟩ e).setCell ⟨g, 5, none⟩ f).setCell ⟨g, 6, none⟩ i).setCell ⟨g, 7, none⟩ j).heap[g]? = some (.cells #[a, b, c, d, e, f, i, j] t (0, 0)) := by
  have h0 := heap_setCell_same w g 0 z t a h
  have h1 := heap_setCell_same _ g 1 _ t b h0
  have h2 := heap_setCell_same _ g 2 _ t c h1
  have h3 := heap_setCell_same _ g 3 _ t d h2
  have h4 := heap_setCell_same _ g 4 _ t e h3
  have h5 := heap_setCell_same _ g 5 _ t f h4
  have h6 := heap_setCell_same _ g 6 _ t i h5
  have h7 := heap_setCell_same _ g 7 _ t j h6
  rw [h7, set8 z hz]

/-- a block that is known whole: its cells, and that none is frozen -/
theorem block_cell {w : World} {g : Nat} {z : Array Value} {t : TypeId} (h : w.heap[g]? = some (.cells z t (0, 0))) (i : Nat) : w.cell? ⟨g, i, none⟩ = z[i]? := cell_of_row w g i z t (0, 0) h
theorem block_free {w : World} {g : Nat} {z : Array Value} {t : TypeId} (h : w.heap[g]? = some (.cells z t (0, 0))) (i : Nat) : w.frozen? ⟨g, i, none⟩ = false := frozen_of_row w g i z t h
theorem block_lt {w : World} {g : Nat} {o : Obj} (h : w.heap[g]? = some o) : g < w.heap.size := (Array.getElem?_eq_some_iff.1 h).1
theorem block_keep {w w2 : World} {g : Nat} {o : Obj} (h : w.heap[g]? = some o) (hb : Below w.heap.size w w2) : w2.heap[g]? = some o := by rw [hb.block g (block_lt h)]; exact h
theorem block_alloc {w : World} {g : Nat} {o : Obj} (h : w.heap[g]? = some o) (o2 : Obj) : (w.alloc o2).heap[g]? = some o := by rw [Below.heap_alloc _ _ _ (block_lt h)]; exact h
theorem block_set {w : World} {g : Nat} {o : Obj} (h : w.heap[g]? = some o) {a : Addr} (ha : g ≠ a.block) (v : Value) : (w.setCell a v).heap[g]? = some o := by rw [Below.heap_setCell _ _ _ _ ha]; exact h

/-- the world has only grown: a call, a block more -/
theorem grew_call {w w1 w2 : World} (h : Below w.heap.size w w1) (hb : Below w1.heap.size w1 w2) : Below w.heap.size w w2 := h.trans (hb.mono h.size)
theorem grew_alloc {w w1 : World} (h : Below w.heap.size w w1) (o : Obj) : Below w.heap.size w (w1.alloc o) := h.alloc h.size o

end Go.Proofs.YtgpojbgjfibblabGreat.texts

namespace Go.Proofs.YtgpojbgjfibblabGreat.texts
open Go.RowKit
set_option linter.unusedVariables false
attribute [local go_sem ↓] Go.wp_at_zero Go.wp_at_succ
attribute [local go_sem] bs_size be_length bs_append List.length_append headL_length restL_length hdrL_length bs_extract bs_list bs_toList

theorem bcell {W w1 : World} (hb : Below W.heap.size W w1) : (∀ b o, b < W.heap.size → w1.cell? ⟨b, o, none⟩ = W.cell? ⟨b, o, none⟩) ∧ (∀ b o, b < W.heap.size → w1.frozen? ⟨b, o, none⟩ = W.frozen? ⟨b, o, none⟩) :=
  ⟨fun b o h => hb.cell (p := ⟨b, o, none⟩) h, fun b o h => hb.frozen (p := ⟨b, o, none⟩) h⟩

/-- the two packets of noughts with which Read begins lie untouched -/
structure Two (w w' : World) : Prop where
  one : w'.heap[w.heap.size]? = some (.cells zeroP.cells 43 (0, 0))
  two : w'.heap[w.heap.size + 1]? = some (.cells zeroP.cells 43 (0, 0))
  below : Below w.heap.size w w'
  size : w.heap.size + 1 < w'.heap.size
theorem two_start0 (w : World) : Two w ((w.alloc (.cells zeroP.cells 43)).alloc (.cells zeroP.cells 43)) := by
  refine ⟨block_alloc (heap_alloc_new w _) _, ?_, ((Below.refl _ _).alloc (Nat.le_refl _) _).alloc (by simp) _, by simp⟩
  have h := heap_alloc_new (w.alloc (.cells zeroP.cells 43)) (.cells zeroP.cells 43)
  simpa using h
theorem two_drew {w w1 : World} (h : Two w w1) : Two w w1.drew := ⟨h.one, h.two, h.below.drew, h.size⟩
theorem two_start (w : World) : Two w ((w.alloc (.cells zeroP.cells 43)).alloc (.cells zeroP.cells 43)).drew := two_drew (two_start0 w)
theorem third_block (w : World) (o1 o2 o3 : Obj) : ((((w.alloc o1).alloc o2).alloc o3).drew).heap[w.heap.size + 1 + 1]? = some o3 := by
  have h := heap_alloc_new ((w.alloc o1).alloc o2) o3
  rw [World.size_alloc, World.size_alloc] at h
  exact h
theorem two_call {w w1 w2 : World} (h : Two w w1) (hb : Below w1.heap.size w1 w2) : Two w w2 :=
  ⟨block_keep h.one hb, block_keep h.two hb, h.below.trans (hb.mono (by have := h.size; omega)), Nat.lt_of_lt_of_le h.size hb.size⟩
theorem two_alloc {w w1 : World} (h : Two w w1) (o : Obj) : Two w (w1.alloc o) :=
  ⟨block_alloc h.one _, block_alloc h.two _, h.below.alloc (by have := h.size; omega) _, by have := h.size; simp; omega⟩
theorem two_swap {w w1 : World} {o : Obj} (h : Two w (w1.alloc o)) (hz : w.heap.size + 1 < w1.heap.size) (o2 : Obj) : Two w (w1.alloc o2) := by
  refine two_alloc ⟨?_, ?_, ?_, hz⟩ o2
  · rw [← Below.heap_alloc w1 o _ (by omega)]; exact h.one
  · rw [← Below.heap_alloc w1 o _ hz]; exact h.two
  · exact ⟨h.below.os, h.below.tape, h.below.output, by omega, fun k hk => by rw [← Below.heap_alloc w1 o _ (by omega)]; exact h.below.block k hk⟩
theorem two_set {w w1 : World} (h : Two w w1) {a : Addr} (ha : w.heap.size + 1 < a.block) (v : Value) : Two w (w1.setCell a v) :=
  ⟨block_set h.one (by omega) _, block_set h.two (by omega) _, h.below.setCell (by omega) _, by simpa using h.size⟩

theorem flat_eq (l : List UInt8) : (seemP l).flat = #[.int .u32 (numOf ((l.take 10).take 4) : Nat), .int .u32 (numOf (((l.take 10).take 8).drop 4) : Nat), .int .u16 (numOf (((l.take 10).take 10).drop 8) : Nat),
    .int .i64 (numOf (((l.take 19).drop 10).take 2) : Nat), .int .i64 (numOf ((((l.take 19).drop 10).take 6).drop 2) : Nat), .int .i64 (numOf ((((l.take 19).drop 10).take 8).drop 6) : Nat), .int .i64 (numOf ((((l.take 19).drop 10).take 9).drop 8) : Nat),
    .string (bs ((l.take (20 + (at19 l : Int)).toNat).drop 20))] := by
  rw [show (20 + (at19 l : Int)).toNat = 20 + at19 l by omega]
  rfl

theorem flat8 {w : World} {g : Nat} {p : Pk} {t : TypeId} (h : w.heap[g]? = some (.cells p.flat t (0, 0))) :
    w.cell? ⟨g, 0, none⟩ = some (.int .u32 p.src) ∧ w.cell? ⟨g, 1, none⟩ = some (.int .u32 p.dst) ∧ w.cell? ⟨g, 2, none⟩ = some (.int .u16 p.port) ∧ w.cell? ⟨g, 3, none⟩ = some (.int .i64 p.seq) ∧
    w.cell? ⟨g, 4, none⟩ = some (.int .i64 p.time) ∧ w.cell? ⟨g, 5, none⟩ = some (.int .i64 p.id) ∧ w.cell? ⟨g, 6, none⟩ = some (.int .i64 p.flags) ∧ w.cell? ⟨g, 7, none⟩ = some (.string (bs p.body)) :=
  ⟨block_cell h 0, block_cell h 1, block_cell h 2, block_cell h 3, block_cell h 4, block_cell h 5, block_cell h 6, block_cell h 7⟩
theorem cells8 {w : World} {g : Nat} {p : Pk} {t : TypeId} (h : w.heap[g]? = some (.cells p.cells t (0, 0))) :
    w.cell? ⟨g, 0, none⟩ = some (.int .u32 p.src) ∧ w.cell? ⟨g, 1, none⟩ = some (.int .u32 p.dst) ∧ w.cell? ⟨g, 2, none⟩ = some (.int .u16 p.port) ∧ w.cell? ⟨g, 3, none⟩ = some (.int .u16 p.seq) ∧
    w.cell? ⟨g, 4, none⟩ = some (.int .u32 p.time) ∧ w.cell? ⟨g, 5, none⟩ = some (.int .u16 p.id) ∧ w.cell? ⟨g, 6, none⟩ = some (.int .u8 p.flags) ∧ w.cell? ⟨g, 7, none⟩ = some (.string (bs p.body)) :=
  ⟨block_cell h 0, block_cell h 1, block_cell h 2, block_cell h 3, block_cell h 4, block_cell h 5, block_cell h 6, block_cell h 7⟩
theorem free8 {w : World} {g : Nat} {z : Array Value} {t : TypeId} (h : w.heap[g]? = some (.cells z t (0, 0))) :
    w.frozen? ⟨g, 0, none⟩ = false ∧ w.frozen? ⟨g, 1, none⟩ = false ∧ w.frozen? ⟨g, 2, none⟩ = false ∧ w.frozen? ⟨g, 3, none⟩ = false ∧ w.frozen? ⟨g, 4, none⟩ = false ∧ w.frozen? ⟨g, 5, none⟩ = false ∧ w.frozen? ⟨g, 6, none⟩ = false ∧ w.frozen? ⟨g, 7, none⟩ = false :=
  ⟨block_free h 0, block_free h 1, block_free h 2, block_free h 3, block_free h 4, block_free h 5, block_free h 6, block_free h 7⟩

theorem read_put (p : Pk) (g : Nat) {B : Nat} {w w2 : World} {z : Array Value} {t : TypeId} (hg : B ≤ g) (hb : Below B w w2) (h : w2.heap[g]? = some (.cells z t (0, 0))) (hz : z.size = 8 := by rfl) :
    ((((((((w2.setCell ⟨g, 0, none⟩ (.int .u32 p.src)).setCell ⟨g, 1, none⟩ (.int .u32 p.dst)).setCell ⟨g, 2, none⟩ (.int .u16 p.port)).setCell ⟨g, 3, none⟩ (.int .u16 p.seq)).setCell ⟨g, 4, none⟩ (.int .u32 p.time)).setCell ⟨g, 5, none⟩ (.int .u16 p.id)).setCell ⟨g, 6, none⟩ (.int .u8 p.flags)).setCell ⟨g, 7, none⟩ (.string (bs p.body))).heap[g]? = some (.cells p.cells t (0, 0)) ∧
    Below B w ((((((((w2.setCell ⟨g, 0, none⟩ (.int .u32 p.src)).setCell ⟨g, 1, none⟩ (.int .u32 p.dst)).setCell ⟨g, 2, none⟩ (.int .u16 p.port)).setCell ⟨g, 3, none⟩ (.int .u16 p.seq)).setCell ⟨g, 4, none⟩ (.int .u32 p.time)).setCell ⟨g, 5, none⟩ (.int .u16 p.id)).setCell ⟨g, 6, none⟩ (.int .u8 p.flags)).setCell ⟨g, 7, none⟩ (.string (bs p.body))) :=
  ⟨fill8 w2 g z t h hz _ _ _ _ _ _ _ _, (((((((hb.setCell hg _).setCell hg _).setCell hg _).setCell hg _).setCell hg _).setCell hg _).setCell hg _).setCell hg _⟩

theorem read_fin (l : List UInt8) (h : 22 ≤ l.length) (hne : l.length = 22 + at19 l) (hl : at19 l ≤ 100) :
    (writeR (seemP l) = l → readE l = 0 ∧ readR l = seemP l) ∧ (writeR (seemP l) ≠ l → readE l = 5 ∧ readR l = zeroP) := by
  have hbody : (seemP l).body.length ≤ 100 := by simp [seemP, withP]; omega
  have e : writeR (seemP l) = textL (seemP l) := by unfold writeR; rw [if_pos hbody]
  have e2 : readE l = if textL (seemP l) = l then 0 else 5 := by
    unfold readE
    rw [if_neg (by omega), if_neg (by omega), if_neg (by omega)]
  rw [e]
  unfold readR
  rw [e2]
  constructor
  · intro h1; rw [if_pos h1]; exact ⟨rfl, if_pos rfl⟩
  · intro h1; rw [if_neg h1]; exact ⟨rfl, if_neg (by decide)⟩

end Go.Proofs.YtgpojbgjfibblabGreat.texts

namespace Go.Proofs.YtgpojbgjfibblabGreat.texts
open Go.RowKit
set_option linter.unusedVariables false
attribute [local go_sem ↓] Go.wp_at_zero Go.wp_at_succ
attribute [local go_sem] bs_size be_length bs_append List.length_append

theorem wbe1 (n : Nat) (h : n < 256) : be n 1 = [UInt8.ofNat n] := by
  simp [be, Nat.mod_eq_of_lt h]
theorem wbe2 (n : Nat) : be n 2 = [UInt8.ofNat (n / 256 % 256), UInt8.ofNat (n % 256)] := by
  simp [be]
theorem wbe4 (n : Nat) : be n 4 = be (n / 65536) 2 ++ be (n % 65536) 2 := by
  have e1 : n / 65536 % 256 = n / 256 / 256 % 256 := by omega
  have e2 : n % 65536 / 256 % 256 = n / 256 % 256 := by omega
  have e3 : n % 65536 % 256 = n % 256 := by omega
  have e4 : n / 65536 / 256 % 256 = n / 256 / 256 / 256 % 256 := by omega
  rw [wbe2, wbe2, e1, e2, e3, e4]
  simp [be]

/-- 'string([]byte{x, y})': the text of two bytes -/
theorem two_bytes (w : World) (x y : Int) (m n : Nat) (h0 : x = m) (h1 : m < 256) (g0 : y = n) (g1 : n < 256) :
    (convert 179 9 (.slice (some ⟨w.heap.size, 0, none⟩) 2 2)).run Tryz.prog (w.alloc (.cells #[.int .u8 x, .int .u8 y] 5)) = .ok (.string (bs [UInt8.ofNat m, UInt8.ofNat n])) (w.alloc (.cells #[.int .u8 x, .int .u8 y] 5)) := by
  have h := run_convert_bytes_back (P := Tryz.prog) (w.alloc (.cells #[.int .u8 x, .int .u8 y] 5)) 179 9 5 ⟨w.heap.size, 0, none⟩ 2 [UInt8.ofNat m, UInt8.ofNat n] Tryz.underlying179 Tryz.underlying5 Tryz.underlying9 (fun j hj => by
    subst h0 g0
    match j, hj with
    | 0, _ => simp [Addr.add]; omega
    | 1, _ => simp [Addr.add]; omega)
  exact h

set_option maxHeartbeats 400000 in
theorem text8_any (n : Int) (w : World) (h0 : 0 ≤ n) (h1 : n < 256) :
    Calls Tryz.prog 105 #[.int .u8 n] w fun e w' => e = .returned (.string (bs (be n.toNat 1))) ∧ Below w.heap.size w w' := by
  obtain ⟨n, rfl⟩ := Int.eq_ofNat_of_zero_le h0
  have hcv := one_byte w (n : Int) n rfl (by omega)
  go_enter Tryz.func105, Tryz.ntmps105
  go_wp2
  go_ret
  exact ⟨ret_str (by rw [Int.toNat_natCast, wbe1 n (by omega)]), (Below.refl _ _).alloc (Nat.le_refl _) _⟩

set_option maxHeartbeats 400000 in
theorem text16_any (n : Int) (w : World) (h0 : 0 ≤ n) (h1 : n < 65536) :
    Calls Tryz.prog 122 #[.int .u16 n] w fun e w' => e = .returned (.string (bs (be n.toNat 2))) ∧ Below w.heap.size w w' := by
  obtain ⟨n, rfl⟩ := Int.eq_ofNat_of_zero_le h0
  have hcv := two_bytes w ((n : Int) / 256) ((n : Int) % 256) (n / 256) (n % 256) (by omega) (by omega) (by omega) (by omega)
  go_enter Tryz.func122, Tryz.ntmps122
  go_wp2
  go_ret
  exact ⟨ret_str (by rw [Int.toNat_natCast, wbe2, Nat.mod_eq_of_lt (show n / 256 < 256 by omega)]), (Below.refl _ _).alloc (Nat.le_refl _) _⟩

set_option maxHeartbeats 400000 in
theorem text32_any (n : Int) (w : World) (h0 : 0 ≤ n) (h1 : n < 4294967296) :
    Calls Tryz.prog 133 #[.int .u32 n] w fun e w' => e = .returned (.string (bs (be n.toNat 4))) ∧ Below w.heap.size w w' := by
  have hw : IntKind.u16.wrap n = n % 65536 := IntKind.wrap_u16 n
  go_enter Tryz.func133, Tryz.ntmps133
  go_wp2_with (first | (go_at_call 122; refine (text16_any _ _ (by omega) (by omega)).mono ?_; rintro e w1 ⟨rfl, hb1⟩))
  go_ret
  rename_i wA hA
  refine ⟨ret_str ?_, hA.trans (hb1.mono hA.size)⟩
  rw [wbe4 n.toNat, show (n / 65536).toNat = n.toNat / 65536 by omega, show (n % 65536).toNat = n.toNat % 65536 by omega]

theorem or_low (a b : Nat) (h : b < 256) : (a * 256 ||| b) = a * 256 + b := by
  have := Nat.two_pow_add_eq_or_of_lt (i := 8) (b := b) (by simpa using h) a
  rw [Nat.mul_comm a 256]
  exact this.symm
theorem u32_next (N b : Nat) (hN : N < 16777216) (hb : b < 256) : bits BinOp.or IntKind.u32 ((N : Int) * 256) (b : Int) = ((256 * N + b : Nat) : Int) := by
  have h := u32_or_nat (N * 256) b (by omega) (by omega)
  rw [or_low N b hb] at h
  have e : ((N * 256 : Nat) : Int) = (N : Int) * 256 := by omega
  rw [e] at h
  rw [h, Nat.mul_comm N 256]

set_option maxHeartbeats 400000 in
theorem wnumber_any (s : ByteArray) (w : World) (hs : s.size ≤ 4) :
    Calls Tryz.prog 144 #[.string s] w fun e w' => e = .returned (.int .u32 (numOf s.data.toList : Nat)) ∧ w' = w := by
  go_enter Tryz.func144, Tryz.ntmps144
  go_wp2_with fail
  go_loop [3, 4] (fun m i => ∃ k : Nat, k ≤ s.size ∧ i = .int .i64 k ∧ m = .int .u32 (numOf (s.data.toList.take k) : Nat)) (fun _ i => s.size - (intOf i).toNat)
  case atStart => exact ⟨0, by omega, rfl, rfl⟩
  case round =>
    obtain ⟨k, hk, rfl, rfl⟩ := hrel
    have hN := numOf_lt (s.data.toList.take k)
    have hl : (s.data.toList.take k).length ≤ k := List.length_take_le _ _
    have hp : (256 : Nat) ^ (s.data.toList.take k).length ≤ 256 ^ k := Nat.pow_le_pow_right (by decide) hl
    by_cases hlt : k < s.size
    · have hq : (256 : Nat) ^ k ≤ 256 ^ 3 := Nat.pow_le_pow_right (by decide) (by omega)
      have hq2 : (256 : Nat) ^ 3 = 16777216 := by decide
      have hN2 : numOf (s.data.toList.take k) < 16777216 := by omega
      have hb := s[k].toNat_lt
      have hsn := hide (numOf_snoc (s.data.toList.take k) s[k])
      have hts := hide (take_snoc s k hlt)
      clear hN hl hp hq hq2
      generalize numOf (s.data.toList.take k) = N at *
      have hnx := u32_next N s[k].toNat hN2 hb
      go_wp2
      go_round
      case rel => exact ⟨k + 1, by omega, by go_num, by rw [unhide hts, unhide hsn]; go_num⟩
      case measure => simp [intOf]; omega
    · have e : k = s.size := by omega
      subst e
      clear hN hl hp
      go_wp2
      go_ret
      exact ⟨ret_int (by rw [List.take_of_length_le (by simp)]), rfl⟩

end Go.Proofs.YtgpojbgjfibblabGreat.texts

namespace Go.Proofs.YtgpojbgjfibblabGreat.texts
open Go.RowKit
set_option linter.unusedVariables false
attribute [local go_sem ↓] Go.wp_at_zero Go.wp_at_succ
attribute [local go_sem] bs_size be_length bs_append List.length_append

/-- a packet's cells lie in a block of their own, and nothing below has changed -/
structure PkAt (w : World) (p : Pk) (w' : World) : Prop where
  src : w'.cell? ⟨w.heap.size, 0, none⟩ = some (.int .u32 p.src)
  dst : w'.cell? ⟨w.heap.size, 1, none⟩ = some (.int .u32 p.dst)
  port : w'.cell? ⟨w.heap.size, 2, none⟩ = some (.int .u16 p.port)
  seq : w'.cell? ⟨w.heap.size, 3, none⟩ = some (.int .u16 p.seq)
  time : w'.cell? ⟨w.heap.size, 4, none⟩ = some (.int .u32 p.time)
  id : w'.cell? ⟨w.heap.size, 5, none⟩ = some (.int .u16 p.id)
  flags : w'.cell? ⟨w.heap.size, 6, none⟩ = some (.int .u8 p.flags)
  body : w'.cell? ⟨w.heap.size, 7, none⟩ = some (.string (bs p.body))
  below : Below w.heap.size w w'
theorem PkAt.call {w w1 w2 : World} {p : Pk} (h : PkAt w p w1) (hb : Below w1.heap.size w1 w2) : PkAt w p w2 :=
  ⟨keep_cell h.src hb, keep_cell h.dst hb, keep_cell h.port hb, keep_cell h.seq hb, keep_cell h.time hb, keep_cell h.id hb, keep_cell h.flags hb, keep_cell h.body hb, h.below.trans (hb.mono h.below.size)⟩
theorem PkAt.start (w : World) (p : Pk) : PkAt w p (w.alloc (.cells p.cells 43)) :=
  ⟨by simp [Pk.cells], by simp [Pk.cells], by simp [Pk.cells], by simp [Pk.cells], by simp [Pk.cells], by simp [Pk.cells], by simp [Pk.cells], by simp [Pk.cells], (Below.refl _ _).alloc (Nat.le_refl _) _⟩
theorem PkAt.drew {w w1 : World} {p : Pk} (h : PkAt w p w1) : PkAt w p w1.drew :=
  ⟨h.src, h.dst, h.port, h.seq, h.time, h.id, h.flags, h.body, h.below.drew⟩

set_option maxRecDepth 100000 in
set_option maxHeartbeats 1000000 in
theorem wfields_any (p : Pk) (w : World) (hp : p.ok) :
    Calls Tryz.prog 123 #[.agg p.cells] w fun e w' => e = .returned (.string (bs (restL p))) ∧ Below w.heap.size w w' := by
  obtain ⟨h1, h2, h3, h4, h5, h6, h7⟩ := hp
  unfold Pk.cells
  go_enter Tryz.func123, Tryz.ntmps123
  go_wp2_with fail
  go_region_held3 (fun w' => w'.cell? ⟨w.heap.size, 3, none⟩ = some (.int .u16 p.seq) ∧ w'.cell? ⟨w.heap.size, 4, none⟩ = some (.int .u32 p.time) ∧ w'.cell? ⟨w.heap.size, 5, none⟩ = some (.int .u16 p.id) ∧ w'.cell? ⟨w.heap.size, 6, none⟩ = some (.int .u8 p.flags) ∧ Below w.heap.size w w' ∧ w.heap.size ≤ w'.heap.size)
    (first | (go_keep; done) | (refine ⟨by simp, by simp, by simp, by simp, ((Below.refl _ _).alloc (Nat.le_refl _) _).drew, by simp⟩) | (go_split_ands; exact ⟨keep_cell (by assumption) hbel, keep_cell (by assumption) hbel, keep_cell (by assumption) hbel, keep_cell (by assumption) hbel, keep_below (by assumption) hbel (by assumption), Nat.le_trans (by assumption) hbel.size⟩))
    ((first | (go_at_call 133; refine (text32_any _ _ (by omega) (by omega)).mono ?_; rintro e w' ⟨rfl, hbel⟩) | (go_at_call 122; refine (text16_any _ _ (by omega) (by omega)).mono ?_; rintro e w' ⟨rfl, hbel⟩) | (go_at_call 105; refine (text8_any _ _ (by omega) (by omega)).mono ?_; rintro e w' ⟨rfl, hbel⟩)))
  all_goals go_split_ands
  all_goals go_wp2
  all_goals go_ret
  all_goals exact ⟨ret_str (by simp [restL]), by assumption⟩

set_option maxRecDepth 100000 in
set_option maxHeartbeats 1000000 in
theorem wheader_any (p : Pk) (w : World) (hp : p.ok) :
    Calls Tryz.prog 120 #[.agg p.cells] w fun e w' => e = .returned (.string (bs (hdrL p))) ∧ Below w.heap.size w w' := by
  have hrl : (restL p).length = 9 := by simp [restL, be_length]
  have hp' := hide hp
  obtain ⟨h1, h2, h3, h4, h5, h6, h7⟩ := hp
  unfold Pk.cells
  go_enter Tryz.func120, Tryz.ntmps120
  go_wp2_with fail
  go_region_held3 (fun w' => w'.cell? ⟨w.heap.size, 0, none⟩ = some (.int .u32 p.src) ∧ w'.cell? ⟨w.heap.size, 1, none⟩ = some (.int .u32 p.dst) ∧ w'.cell? ⟨w.heap.size, 2, none⟩ = some (.int .u16 p.port) ∧ w'.cell? ⟨w.heap.size, 3, none⟩ = some (.int .u16 p.seq) ∧ w'.cell? ⟨w.heap.size, 4, none⟩ = some (.int .u32 p.time) ∧ w'.cell? ⟨w.heap.size, 5, none⟩ = some (.int .u16 p.id) ∧ w'.cell? ⟨w.heap.size, 6, none⟩ = some (.int .u8 p.flags) ∧ w'.cell? ⟨w.heap.size, 7, none⟩ = some (.string (bs p.body)) ∧ Below w.heap.size w w' ∧ w.heap.size ≤ w'.heap.size)
    (first | (go_keep; done) | (refine ⟨by simp, by simp, by simp, by simp, by simp, by simp, by simp, by simp, ((Below.refl _ _).alloc (Nat.le_refl _) _).drew, by simp⟩) | (go_split_ands; exact ⟨keep_cell (by assumption) hbel, keep_cell (by assumption) hbel, keep_cell (by assumption) hbel, keep_cell (by assumption) hbel, keep_cell (by assumption) hbel, keep_cell (by assumption) hbel, keep_cell (by assumption) hbel, keep_cell (by assumption) hbel, keep_below (by assumption) hbel (by assumption), Nat.le_trans (by assumption) hbel.size⟩))
    ((first | (go_at_call 133; refine (text32_any _ _ (by omega) (by omega)).mono ?_; rintro e w' ⟨rfl, hbel⟩) | (go_at_call 122; refine (text16_any _ _ (by omega) (by omega)).mono ?_; rintro e w' ⟨rfl, hbel⟩)))
  all_goals go_split_ands
  all_goals go_wp2_with (go_at_call 123; refine (wfields_any p _ hp'.out).mono ?_; rintro e w2 ⟨rfl, hbel2⟩)
  all_goals go_ret
  all_goals exact ⟨ret_str (by simp [hdrL, headL, restL]), keep_below (by assumption) hbel2 (by assumption)⟩

end Go.Proofs.YtgpojbgjfibblabGreat.texts

namespace Go.Proofs.YtgpojbgjfibblabGreat.texts
open Go.RowKit
set_option linter.unusedVariables false

/-- a flow's state -/
structure St where
  seq : Nat
  stride : Nat
  offset : Nat
  lag : Nat
  flags : Nat
structure St.ok (s : St) : Prop where
  seq : s.seq < 65536
  stride : s.stride < 65536
  offset : s.offset < 65536
  lag : s.lag < 4294967296
  flags : s.flags < 256
def St.zero : St := ⟨0, 0, 0, 0, 0⟩
theorem St.zero_ok : St.zero.ok := ⟨by decide, by decide, by decide, by decide, by decide⟩
/-- its cells, as the program's and as the document's -/
def St.cells (s : St) : Array Value := #[.int .u16 s.seq, .int .u16 s.stride, .int .u16 s.offset, .int .u32 s.lag, .int .u8 s.flags]
def St.flat (s : St) : Array Value := #[.int .i64 s.seq, .int .i64 s.stride, .int .i64 s.offset, .int .i64 s.lag, .int .i64 s.flags]

theorem way_lt {a b : Nat} (ha : a < 65536) (hb : b < 65536) : a * b < 4294967296 := by
  have h : a * b ≤ 65535 * 65535 := Nat.mul_le_mul (by omega) (by omega)
  omega

/-- the Time of the packet that left a state -/
def timeN (s : St) : Nat := (s.lag + s.stride * s.seq) % 4294967296
theorem timeN_lt (s : St) : timeN s < 4294967296 := Nat.mod_lt _ (by decide)
/-- the state that a packet leaves -/
def stateN (p : Pk) (stride : Nat) : St := ⟨p.seq, stride, (p.id + 65536 - p.seq) % 65536, (p.time + 4294967296 - stride * p.seq) % 4294967296, p.flags⟩
theorem stateN_ok {p : Pk} (hp : p.ok) {stride : Nat} (h : stride < 65536) : (stateN p stride).ok :=
  ⟨hp.seq, h, Nat.mod_lt _ (by decide), Nat.mod_lt _ (by decide), hp.flags⟩
theorem timeN_stateN {p : Pk} (hp : p.ok) {stride : Nat} (h : stride < 65536) : timeN (stateN p stride) = p.time := by
  have h1 := way_lt h hp.seq
  have h2 := hp.time
  unfold timeN stateN
  simp only
  generalize stride * p.seq = x at *
  omega

/-- the kind of frame by which a receiver at one state learns the next -/
def needsN (n r : St) : Nat :=
  if n.stride = r.stride ∧ n.flags = r.flags then
    if n.offset = r.offset ∧ n.lag = r.lag ∧ bits.fitR 16 n.seq r.seq 4 1 = true then 0
    else if bits.fitR 16 n.seq r.seq 8 1 = true ∧ bits.fitR 16 n.offset r.offset 8 128 = true ∧ bits.fitR 32 n.lag r.lag 8 128 = true then 1 else 2
  else 2
theorem needsN_le (n r : St) : needsN n r ≤ 2 := by unfold needsN; split <;> (try split) <;> (try split) <;> omega

/-- what a sender keeps of a flow -/
structure Cx where
  src : Nat
  dst : Nat
  port : Nat
  turn : Nat
  count : Int
  rank : Nat
  whole : Nat
  full : Nat
  age : Nat
  s0 : St
  s1 : St
  s2 : St
  s3 : St
  kept : Nat
structure Cx.ok (c : Cx) : Prop where
  src : c.src < 4294967296
  dst : c.dst < 4294967296
  port : c.port < 65536
  turn : c.turn < 4
  count : True
  rank : c.rank ≤ 8
  whole : c.whole ≤ 4
  full : c.full ≤ 4
  age : c.age < 4611686018427387904
  s0 : c.s0.ok
  s1 : c.s1.ok
  s2 : c.s2.ok
  s3 : c.s3.ok
  kept : c.kept ≤ 4
def Cx.cells (c : Cx) : Array Value := #[.int .u32 c.src, .int .u32 c.dst, .int .u16 c.port, .int .u8 c.turn, .int .i64 c.count, .int .i64 c.rank, .int .i64 c.whole, .int .i64 c.full, .int .i64 c.age,
  .int .u16 c.s0.seq, .int .u16 c.s0.stride, .int .u16 c.s0.offset, .int .u32 c.s0.lag, .int .u8 c.s0.flags,
  .int .u16 c.s1.seq, .int .u16 c.s1.stride, .int .u16 c.s1.offset, .int .u32 c.s1.lag, .int .u8 c.s1.flags,
  .int .u16 c.s2.seq, .int .u16 c.s2.stride, .int .u16 c.s2.offset, .int .u32 c.s2.lag, .int .u8 c.s2.flags,
  .int .u16 c.s3.seq, .int .u16 c.s3.stride, .int .u16 c.s3.offset, .int .u32 c.s3.lag, .int .u8 c.s3.flags, .int .i64 c.kept]
def Cx.sts (c : Cx) : List St := [c.s0, c.s1, c.s2, c.s3].take c.kept
/-- a context that has had no flow yet -/
def Cx.blank : Cx := ⟨0, 0, 0, 0, 0, 8, 0, 0, 0, St.zero, St.zero, St.zero, St.zero, 0⟩
theorem Cx.blank_ok : Cx.blank.ok := ⟨by decide, by decide, by decide, by decide, by decide, by decide, by decide, by decide, by decide, St.zero_ok, St.zero_ok, St.zero_ok, St.zero_ok, by decide⟩

def Cx.hasB (c : Cx) (a b d : Nat) : Bool := decide (0 < c.kept ∧ c.src = a ∧ c.dst = b ∧ c.port = d)
def strideN (c : Cx) (p : Pk) : Nat :=
  if c.kept = 0 then 0 else if (c.s0.seq + 1) % 65536 = p.seq then (p.time + 4294967296 - timeN c.s0) % 65536 else c.s0.stride
theorem strideN_lt {c : Cx} (hc : c.ok) (p : Pk) : strideN c p < 65536 := by
  unfold strideN
  split
  · omega
  · split
    · omega
    · exact hc.s0.stride
def leastN (c : Cx) (n : St) : Nat := c.sts.foldl (fun k r => max k (needsN n r)) 0
def kindN (c : Cx) (n : St) (refresh : Nat) : Nat := if 0 < c.whole ∨ refresh ≤ c.age + 1 then 3 else if 0 < c.full then 2 else leastN c n
def beginN (c : Cx) (a b d keep : Nat) : Cx := ⟨a, b, d, if 0 < c.kept then (c.turn + 1) % 4 else c.turn, 0, c.rank, keep, 0, 0, St.zero, St.zero, St.zero, St.zero, 0⟩
def addN (c : Cx) (n : St) (keep : Nat) : Cx := ⟨c.src, c.dst, c.port, c.turn, c.count, c.rank, c.whole, c.full, c.age, n, if 1 < keep then c.s0 else c.s1, if 2 < keep then c.s1 else c.s2, if 3 < keep then c.s2 else c.s3, if c.kept < keep then c.kept + 1 else c.kept⟩
def sentN (c : Cx) (kind : Nat) (n : St) (keep : Nat) : Cx :=
  addN ⟨c.src, c.dst, c.port, c.turn, wrap64 (c.count + 1), 0, if kind = 3 then c.whole - 1 else c.whole, if kind = 2 then c.full - 1 else c.full, if kind = 3 then 0 else c.age + 1, c.s0, c.s1, c.s2, c.s3, c.kept⟩ n keep

theorem foldl_max_le (l : List St) (n : St) (k : Nat) (h : k ≤ 2) : l.foldl (fun k r => max k (needsN n r)) k ≤ 2 := by
  induction l generalizing k with
  | nil => exact h
  | cons r l ih => exact ih _ (by have := needsN_le n r; show max k (needsN n r) ≤ 2; omega)
theorem leastN_le (c : Cx) (n : St) : leastN c n ≤ 2 := foldl_max_le _ _ _ (by omega)
theorem kindN_le (c : Cx) (n : St) (refresh : Nat) : kindN c n refresh ≤ 3 := by
  have := leastN_le c n
  unfold kindN; split <;> (try split) <;> omega
theorem beginN_ok {c : Cx} (hc : c.ok) {a b d keep : Nat} (ha : a < 4294967296) (hb : b < 4294967296) (hd : d < 65536) (hk : keep ≤ 4) : (beginN c a b d keep).ok :=
  ⟨ha, hb, hd, by unfold beginN; simp only; split; omega; exact hc.turn, trivial, hc.rank, hk, by simp [beginN], by simp [beginN], St.zero_ok, St.zero_ok, St.zero_ok, St.zero_ok, by simp [beginN]⟩
theorem sentN_ok {c : Cx} (hc : c.ok) {kind : Nat} {n : St} (hn : n.ok) {keep : Nat} (hk : keep ≤ 4) (h2 : c.age + 1 < 4611686018427387904) : (sentN c kind n keep).ok := by
  have hw := hc.whole
  have hf := hc.full
  have hkk := hc.kept
  refine ⟨hc.src, hc.dst, hc.port, hc.turn, trivial, by simp [sentN, addN], ?_, ?_, ?_, hn, ?_, ?_, ?_, ?_⟩ <;> simp only [sentN, addN]
  · split <;> omega
  · split <;> omega
  · split <;> omega
  · split; exact hc.s0; exact hc.s1
  · split; exact hc.s1; exact hc.s2
  · split; exact hc.s2; exact hc.s3
  · split <;> omega

/-- the check of a header -/
def chk (wd : Nat) (p : Pk) : Nat := plain.checkOf wd (hdrL p)
/-- what stands between a frame's first byte and its body -/
def toldN (kind : Nat) (n : St) (p : Pk) : List UInt8 :=
  if kind = 3 then hdrL p ++ be n.stride 2 ++ be (chk 8 p) 1
  else if kind = 2 then restL p ++ be n.stride 2 ++ be (chk 8 p) 1
  else if kind = 1 then be (n.seq % 256) 1 ++ be (n.offset % 256) 1 ++ be (n.lag % 256) 1 ++ be (chk 7 p) 1
  else be (16 * (n.seq % 16) + 2 * chk 3 p) 1
/-- a frame -/
def frameN (kind turn cid : Nat) (n : St) (p : Pk) : List UInt8 := be (64 * kind + 16 * turn + 2 * cid) 1 ++ toldN kind n p ++ p.body

end Go.Proofs.YtgpojbgjfibblabGreat.texts
