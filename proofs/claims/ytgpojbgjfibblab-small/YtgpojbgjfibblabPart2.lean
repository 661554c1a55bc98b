/-
  Rows of bits in memory: what each step of the document's check does to them. The walk of the document's Check (package gistref): a row of bits, pushed on bit by bit. Texts as lists of bytes; the walks of the document's Bytes and Number (package gistref). The walks of the document's Head, Rest and Header (package gistref). Packets as values and as texts; the walks of the document's Rest, Header, Flatten, Packet, RouteOf, With (package gistref).
  Conditions stand in each theorem.
-/
import Derived.Test.YtgpojbgjfibblabPart1
import Derived.Deep.QuietTactic
import Derived.BigQuiet
import Derived.Test.YtgpojbgjfibblabProg
import Derived.WalkKit
import Derived.WalkSpells
import Derived.WalkLawsBesides
import Derived.Deep.RegionHeld3
import Derived.Deep.DrawnRows
namespace Go.Proofs.Ytgpojbgjfibblab.bits
open Go.RowKit
set_option linter.unusedVariables false

/-- a bit of a number, under a name that nothing lays open -/
def tb (c i : Nat) : Bool := c.testBit i
/-- a row of bits; the same with the first k alone -/
def rowL (wd c : Nat) : List Value := (List.range wd).map fun i => .bool (tb c i)
def partL (wd c k : Nat) : List Value := (List.range wd).map fun i => .bool (decide (i < k) && tb c i)

theorem partL_length (wd c k : Nat) : (partL wd c k).length = wd := by simp [partL]
theorem rowL_length (wd c : Nat) : (rowL wd c).length = wd := by simp [rowL]
theorem partL_zero (wd c : Nat) : List.replicate wd (Value.bool false) = partL wd c 0 := by
  refine List.ext_getElem (by simp [partL]) fun i h1 h2 => ?_
  simp [partL]
theorem partL_full (wd c : Nat) : partL wd c wd = rowL wd c := by
  refine List.ext_getElem (by simp [partL, rowL]) fun i h1 h2 => ?_
  have h : i < wd := by simpa [rowL] using h2
  simp [partL, rowL, h]
theorem partL_set (wd c k : Nat) (hk : k < wd) : (partL wd c k).set k (.bool (tb c k)) = partL wd c (k + 1) := by
  refine List.ext_getElem (by simp [partL]) fun i h1 h2 => ?_
  rw [List.getElem_set]
  simp only [partL, List.getElem_map, List.getElem_range]
  by_cases h : k = i
  · subst h; simp
  · rw [if_neg h]
    by_cases h3 : i < k
    · simp [h3, show i < k + 1 by omega]
    · simp [h3, show ¬ i < k + 1 by omega]
theorem rowL_at (wd c k : Nat) (hk : k < wd) : (rowL wd c)[k]? = some (.bool (tb c k)) := by
  rw [List.getElem?_eq_getElem (by simp [rowL]; exact hk)]; simp [rowL]
theorem partL_at (wd c j k : Nat) (hk : k < wd) : (partL wd c j)[k]? = some (.bool (decide (k < j) && tb c k)) := by
  rw [List.getElem?_eq_getElem (by simp [partL]; exact hk)]; simp [partL]

/-- a slice value over its own block -/
abbrev sl (g wd : Nat) : Value := .slice (some ⟨g, 0, none⟩) wd wd

theorem own_form {w : World} {base : Nat} {e : TypeId} {v : Value} {n : Nat} {xs : List Value} (h : w.ownsRow base e 1 v n xs) :
    ∃ ao cap, v = .slice ao n cap ∧ (0 < n → ∃ g, ao = some ⟨g, 0, none⟩ ∧ g < w.heap.size) := by
  rcases h.2 with ⟨rfl, rfl⟩ | ⟨g, cap, cur, rfl, hb, hg, r⟩
  · exact ⟨none, 0, rfl, fun h => absurd h (by omega)⟩
  · refine ⟨some ⟨g, 0, none⟩, cap, rfl, fun _ => ⟨g, rfl, ?_⟩⟩
    exact (Array.getElem?_eq_some_iff.1 hg).1

/-- what is owned does not depend on the draws -/
theorem own_drewN {w : World} {base : Nat} {e : TypeId} {size : Nat} {v : Value} {n : Nat} {xs : List Value} (h : w.ownsRow base e size v n xs) (m : Nat) : (w.drewN m).ownsRow base e size v n xs := h

theorem own_below {w w2 : World} {base : Nat} {e : TypeId} {size : Nat} {v : Value} {n : Nat} {xs : List Value} (h : w.ownsRow base e size v n xs) (hb : Below w.heap.size w w2) : w2.ownsRow base e size v n xs := by
  refine ⟨h.1, ?_⟩
  rcases h.2 with h2 | ⟨g, cap, cur, hv, hg, hh, r⟩
  · exact Or.inl h2
  · exact Or.inr ⟨g, cap, cur, hv, hg, by rw [hb.block g (Array.getElem?_eq_some_iff.1 hh).1]; exact hh, r⟩
theorem own_base {w : World} {base base2 : Nat} {e : TypeId} {size : Nat} {v : Value} {n : Nat} {xs : List Value} (h : w.ownsRow base e size v n xs) (hb : base2 ≤ base) : w.ownsRow base2 e size v n xs := by
  refine ⟨h.1, ?_⟩
  rcases h.2 with h2 | ⟨g, cap, cur, hv, hg, r⟩
  · exact Or.inl h2
  · exact Or.inr ⟨g, cap, cur, hv, by omega, r⟩

section
variable {w wr : World} {B g wd c k : Nat}

end

theorem bits_at (l : List Bool) (i : Nat) (h : i < l.length) : (l.map Value.bool)[i]? = some (.bool (l[i]?.getD false)) := by
  rw [List.getElem?_map, List.getElem?_eq_getElem h]; rfl

theorem start_bit (wd k : Nat) (h : k < wd) : tb (plain.startOf wd) k = true := by
  unfold tb
  unfold plain.startOf; rw [Nat.testBit_two_pow_sub_one]; simp [h]

/-- the next bit of the row -/
theorem next_bit (wd mix c k : Nat) (b : Bool) (t1 : Bool) (hc : c < 2 ^ wd) (hk : k < wd) (ht : t1 = mix.testBit k) :
    ((decide (k + 1 < wd) && tb c (k + 1)) != ((!(tb c 0 == b)) && t1)) = tb (plain.stepB mix c b) k := by
  unfold tb
  show ((decide (k + 1 < wd) && c.testBit (k + 1)) != ((c.testBit 0 != b) && t1)) = _
  rw [plain.stepB_testBit, ht]
  by_cases h : k + 1 < wd
  · simp [h]
  · have e : c.testBit (k + 1) = false := Nat.testBit_lt_two_pow (Nat.lt_of_lt_of_le hc (Nat.pow_le_pow_right (by decide) (by omega)))
    simp [h, e]

theorem crc_next (mix c : Nat) (l : List Bool) (i : Nat) (h : i < l.length) : plain.crcB mix c (l.take (i + 1)) = plain.stepB mix (plain.crcB mix c (l.take i)) (l[i]?.getD false) := by
  rw [List.take_succ_eq_append_getElem h, plain.crcB_snoc, List.getElem?_eq_getElem h]; rfl

end Go.Proofs.Ytgpojbgjfibblab.bits

namespace Go.Proofs.Ytgpojbgjfibblab.bits
open Go.RowKit
set_option linter.unusedVariables false

end Go.Proofs.Ytgpojbgjfibblab.bits

namespace Go.Proofs.Ytgpojbgjfibblab.texts
open Go.RowKit
set_option linter.unusedVariables false

theorem hide {p : Prop} (h : p) : Hid p := h
theorem unhide {p : Prop} (h : Hid p) : p := h
theorem ret_int {k : IntKind} {a b : Int} (h : a = b) : Ending.returned (.int k a) = .returned (.int k b) := by rw [h]
theorem ret_str {a b : ByteArray} (h : a = b) : Ending.returned (.string a) = .returned (.string b) := by rw [h]

/-- a text of a list of bytes -/
def bs (l : List UInt8) : ByteArray := ⟨l.toArray⟩
theorem bs_size (l : List UInt8) : (bs l).size = l.length := by simp [bs, ByteArray.size]
theorem bs_append (a b : List UInt8) : bs a ++ bs b = bs (a ++ b) := by
  apply ByteArray.ext
  simp [bs]
theorem bs_list (l : List UInt8) : (bs l).data.toList = l := by simp [bs]
theorem bs_toList (l : List UInt8) : (bs l).toList = l := ByteArray.toList_mk l
theorem bs_inj {a b : List UInt8} (h : bs a = bs b) : a = b := by rw [← bs_list a, h, bs_list]
theorem bs_of (s : ByteArray) : bs s.data.toList = s := by
  apply ByteArray.ext
  simp [bs]

/-- a number in k bytes, the highest first -/
def be : Nat → Nat → List UInt8
  | _, 0 => []
  | n, k + 1 => be (n / 256) k ++ [UInt8.ofNat (n % 256)]
theorem be_length (n k : Nat) : (be n k).length = k := by
  induction k generalizing n with
  | zero => rfl
  | succ k ih => simp [be, ih]

/-- 'string([]byte{x})': the text of one byte -/
theorem one_byte (w : World) (x : Int) (m : Nat) (h0 : x = m) (h1 : m < 256) :
    (convert 113 9 (.slice (some ⟨w.heap.size, 0, none⟩) 1 1)).run Try.prog (w.alloc (.cells #[.int .u8 x] 5)) = .ok (.string (bs [UInt8.ofNat m])) (w.alloc (.cells #[.int .u8 x] 5)) := by
  have h := run_convert_bytes_back (P := Try.prog) (w.alloc (.cells #[.int .u8 x] 5)) 113 9 5 ⟨w.heap.size, 0, none⟩ 1 [UInt8.ofNat m] Try.underlying113 Try.underlying5 Try.underlying9 (fun j hj => by
    have e : j = 0 := by simpa using hj
    subst e
    subst h0
    simp [Addr.add]
    omega)
  exact h

/-- the number of all bytes of a text, the highest first -/
def numOf (l : List UInt8) : Nat := l.foldl (fun n b => 256 * n + b.toNat) 0
theorem numOf_snoc (l : List UInt8) (b : UInt8) : numOf (l ++ [b]) = 256 * numOf l + b.toNat := by simp [numOf]
theorem numOf_lt (l : List UInt8) : numOf l < 256 ^ l.length := by
  have h : ∀ (l : List UInt8) (n : Nat), l.foldl (fun n b => 256 * n + b.toNat) n < (n + 1) * 256 ^ l.length := by
    intro l
    induction l with
    | nil => intro n; simp
    | cons b l ih =>
      intro n
      have hb := b.toNat_lt
      have h1 := ih (256 * n + b.toNat)
      simp only [List.foldl_cons, List.length_cons]
      have h2 : (256 * n + b.toNat + 1) * 256 ^ l.length ≤ ((n + 1) * 256) * 256 ^ l.length := Nat.mul_le_mul_right _ (by omega)
      have h3 : (n + 1) * 256 ^ (l.length + 1) = ((n + 1) * 256) * 256 ^ l.length := by rw [Nat.pow_succ, Nat.mul_assoc, Nat.mul_comm 256]
      omega
  have := h l 0
  simpa [numOf] using this
theorem take_snoc (s : ByteArray) (k : Nat) (h : k < s.size) : s.data.toList.take (k + 1) = s.data.toList.take k ++ [s[k]] := by
  rw [List.take_succ_eq_append_getElem (by simpa using h)]; rfl

end Go.Proofs.Ytgpojbgjfibblab.texts

namespace Go.Proofs.Ytgpojbgjfibblab.texts
open Go.RowKit
set_option linter.unusedVariables false
attribute [local go_sem ↓] Go.wp_at_zero Go.wp_at_succ
attribute [local go_sem] bs_size be_length bs_append List.length_append

/-- the ten bytes of a route -/
def headL (src dst port : Nat) : List UInt8 := be src 4 ++ be dst 4 ++ be port 2

theorem keep_cell {w1 w2 : World} {a : Addr} {v : Value} (h : w1.cell? a = some v) (hb : Below w1.heap.size w1 w2) : w2.cell? a = some v := by
  have hlt : a.block < w1.heap.size := by
    by_cases h2 : a.block < w1.heap.size
    · exact h2
    · simp [World.cell?, Array.getElem?_eq_none (Nat.le_of_not_lt h2)] at h
  rw [hb.cell hlt]; exact h

theorem wrap_id {a : Int} (h0 : 0 ≤ a) (h1 : a ≤ 4294967295) : IntKind.i64.wrap a = a := by
  simp [IntKind.wrap, IntKind.bits, IntKind.signed]; omega
theorem keep_below {B : Nat} {w w1 w2 : World} (h : Below B w w1) (hb : Below w1.heap.size w1 w2) (hs : B ≤ w1.heap.size) : Below B w w2 := h.trans (hb.mono hs)

end Go.Proofs.Ytgpojbgjfibblab.texts

namespace Go.Proofs.Ytgpojbgjfibblab.texts
open Go.RowKit
set_option linter.unusedVariables false
attribute [local go_sem ↓] Go.wp_at_zero Go.wp_at_succ
attribute [local go_sem] bs_size be_length bs_append List.length_append

/-- a packet -/
structure Pk where
  src : Nat
  dst : Nat
  port : Nat
  seq : Nat
  time : Nat
  id : Nat
  flags : Nat
  body : List UInt8

/-- its numbers have their widths -/
structure Pk.ok (p : Pk) : Prop where
  src : p.src < 4294967296
  dst : p.dst < 4294967296
  port : p.port < 65536
  seq : p.seq < 65536
  time : p.time < 4294967296
  id : p.id < 65536
  flags : p.flags < 256

/-- its cells, as api.Packet and as gistref.Flat -/
def Pk.cells (p : Pk) : Array Value := #[.int .u32 p.src, .int .u32 p.dst, .int .u16 p.port, .int .u16 p.seq, .int .u32 p.time, .int .u16 p.id, .int .u8 p.flags, .string (bs p.body)]
def Pk.flat (p : Pk) : Array Value := #[.int .u32 p.src, .int .u32 p.dst, .int .u16 p.port, .int .i64 p.seq, .int .i64 p.time, .int .i64 p.id, .int .i64 p.flags, .string (bs p.body)]

def restL (p : Pk) : List UInt8 := be p.seq 2 ++ be p.time 4 ++ be p.id 2 ++ be p.flags 1
def hdrL (p : Pk) : List UInt8 := headL p.src p.dst p.port ++ restL p
theorem headL_length (a b c : Nat) : (headL a b c).length = 10 := by simp [headL, be_length]
theorem restL_length (p : Pk) : (restL p).length = 9 := by simp [restL, be_length]
theorem hdrL_length (p : Pk) : (hdrL p).length = 19 := by simp [hdrL, headL_length, restL_length]

attribute [local go_sem] headL_length restL_length hdrL_length

theorem wrap16 {n : Nat} (h : n < 65536) : IntKind.u16.wrap (n : Int) = n := by rw [IntKind.wrap_u16]; omega
theorem wrap8 {n : Nat} (h : n < 256) : IntKind.u8.wrap (n : Int) = n := by rw [IntKind.wrap_u8']; omega

end Go.Proofs.Ytgpojbgjfibblab.texts
