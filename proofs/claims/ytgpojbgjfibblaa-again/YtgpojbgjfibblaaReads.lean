/-
  The walks of the document's RouteOf, With and Read (package gistref).
  Conditions stand in each theorem.
-/
import Derived.Test.YtgpojbgjfibblaaWrites
namespace Go.Proofs.Ytgpojbgjfibblaa.texts
open Go.RowKit
set_option linter.unusedVariables false

theorem bs_extract (l : List UInt8) (a b : Nat) : (bs l).extract a b = bs ((l.take b).drop a) := by
  apply ByteArray.ext
  rw [ByteArray.data_extract]
  apply Array.ext'
  simp [bs, List.extract_eq_take_drop, List.drop_take]

theorem wrap32 {n : Nat} (h : n < 4294967296) : IntKind.u32.wrap (n : Int) = n := by rw [IntKind.wrap_u32']; omega
theorem numOf_lt' {l : List UInt8} (k : Nat) (h : l.length ≤ k) : numOf l < 256 ^ k := Nat.lt_of_lt_of_le (numOf_lt l) (Nat.pow_le_pow_right (by decide) h)

attribute [local go_sem ↓] Go.wp_at_zero Go.wp_at_succ
attribute [local go_sem] bs_size be_length bs_append List.length_append headL_length restL_length hdrL_length bs_extract bs_list

set_option maxHeartbeats 1000000 in
theorem routeOf_any (l : List UInt8) (w : World) (hl : l.length = 10) :
    Calls Try.prog 61 #[.string (bs l)] w fun e w' => e = .returned (.agg #[.int .u32 (numOf (l.take 4) : Nat), .int .u32 (numOf ((l.take 8).drop 4) : Nat), .int .u16 (numOf ((l.take 10).drop 8) : Nat)]) ∧ Below w.heap.size w w' := by
  have e1 : IntKind.u32.wrap ((numOf (l.take 4) : Nat) : Int) = (numOf (l.take 4) : Nat) := wrap32 (numOf_lt' 4 (by simp; omega))
  have e2 : IntKind.u32.wrap ((numOf ((l.take 8).drop 4) : Nat) : Int) = (numOf ((l.take 8).drop 4) : Nat) := wrap32 (numOf_lt' 4 (by simp; omega))
  have e3 : IntKind.u16.wrap ((numOf ((l.take 10).drop 8) : Nat) : Int) = (numOf ((l.take 10).drop 8) : Nat) := wrap16 (numOf_lt' 2 (by simp; omega))
  go_enter Try.func61, Try.ntmps61
  go_wp2_with fail
  go_region_held3 (fun _ => True) (trivial)
    ((go_at_call 94; refine (number_any _ _ (by rw [bs_size]; simp; omega)).mono ?_; rintro e w' ⟨rfl, rfl⟩))
  all_goals go_wp2
  all_goals exact bodyPost_ret (v := .agg #[.int .u32 (numOf (l.take 4) : Nat), .int .u32 (numOf ((l.take 8).drop 4) : Nat), .int .u16 (numOf ((l.take 10).drop 8) : Nat)]) (by simp [results, Try.results61, go_sem]) rfl ⟨rfl, ((Below.refl _ _).alloc (Nat.le_refl _) _).drew⟩

/-- a packet whose numbers stand in nine bytes -/
def withP (a b c : Nat) (l body : List UInt8) : Pk :=
  { src := a, dst := b, port := c, seq := numOf (l.take 2), time := numOf ((l.take 6).drop 2), id := numOf ((l.take 8).drop 6), flags := numOf ((l.take 9).drop 8), body := body }

set_option maxHeartbeats 1000000 in
theorem with_any (a b c : Nat) (l body : List UInt8) (w : World) (hl : l.length = 9) :
    Calls Try.prog 60 #[.agg #[.int .u32 a, .int .u32 b, .int .u16 c], .string (bs l), .string (bs body)] w fun e w' => e = .returned (.agg (withP a b c l body).flat) ∧ Below w.heap.size w w' := by
  unfold withP Pk.flat
  go_enter Try.func60, Try.ntmps60
  go_wp2_with fail
  go_region_held3 (fun w' => w'.cell? ⟨w.heap.size, 0, none⟩ = some (.int .u32 a) ∧ w'.cell? ⟨w.heap.size, 1, none⟩ = some (.int .u32 b) ∧ w'.cell? ⟨w.heap.size, 2, none⟩ = some (.int .u16 c)) (first | (go_keep; done) | (simp; done))
    ((go_at_call 94; refine (number_any _ _ (by rw [bs_size]; simp; omega)).mono ?_; rintro e w' ⟨rfl, rfl⟩))
  all_goals go_wp2
  all_goals exact bodyPost_ret (v := .agg (withP a b c l body).flat) (by simp [results, Try.results60, go_sem, withP, Pk.flat]) rfl ⟨rfl, (((Below.refl _ _).alloc (Nat.le_refl _) _).alloc (by simp) _).drew⟩

/-- a packet of noughts -/
def zeroP : Pk := { src := 0, dst := 0, port := 0, seq := 0, time := 0, id := 0, flags := 0, body := [] }
/-- byte 19; the packet that a text seems to tell; what Read answers -/
def at19 (l : List UInt8) : Nat := (l[19]?.getD 0).toNat
def seemP (l : List UInt8) : Pk :=
  withP (numOf ((l.take 10).take 4)) (numOf (((l.take 10).take 8).drop 4)) (numOf (((l.take 10).take 10).drop 8)) ((l.take 19).drop 10) ((l.take (20 + at19 l)).drop 20)
def readE (l : List UInt8) : Int :=
  if l.length < 22 then 4 else if ¬ l.length = 22 + at19 l then 4 else if 100 < at19 l then 2 else if textL (seemP l) = l then 0 else 5
def readR (l : List UInt8) : Pk := if readE l = 0 then seemP l else zeroP

theorem seem_ok (l : List UInt8) : (seemP l).ok := by
  unfold seemP withP
  constructor
  · exact numOf_lt' 4 (by simp; omega)
  · exact numOf_lt' 4 (by simp; omega)
  · exact numOf_lt' 2 (by simp; omega)
  · exact numOf_lt' 2 (by simp; omega)
  · exact numOf_lt' 4 (by simp; omega)
  · exact numOf_lt' 2 (by simp; omega)
  · exact numOf_lt' 1 (by simp; omega)

theorem readR_bad {l : List UInt8} (h : readE l ≠ 0) : readR l = zeroP := by unfold readR; rw [if_neg h]

set_option maxHeartbeats 1000000 in
theorem rread_few (l : List UInt8) (w : World) (h : l.length < 22) :
    Calls Try.prog 30 #[.string (bs l)] w fun e w' => e = .returned (.tuple #[.agg zeroP.cells, .int .i64 4]) ∧ Below w.heap.size w w' := by
  go_enter Try.func30, Try.ntmps30
  go_wp2_with fail
  exact bodyPost_ret (v := .tuple #[.agg zeroP.cells, .int .i64 4]) (by simp [results, Try.results30, go_sem, zeroP, Pk.cells, bs]) rfl ⟨rfl, ((Below.refl _ _).alloc (Nat.le_refl _) _).alloc (by simp) _⟩

theorem at_byte (l : List UInt8) (h : 19 < l.length) : ((bs l)[19]'(by rw [bs_size]; exact h)).toNat = at19 l := by
  unfold at19
  rw [List.getElem?_eq_getElem h]
  rfl

set_option maxHeartbeats 1000000 in
theorem rread_else (l : List UInt8) (w : World) (h : 22 ≤ l.length) (hm : l.length ≤ 9223372036854775807) (hne : ¬ l.length = 22 + at19 l) :
    Calls Try.prog 30 #[.string (bs l)] w fun e w' => e = .returned (.tuple #[.agg zeroP.cells, .int .i64 4]) ∧ Below w.heap.size w w' := by
  have hb := at_byte l (Nat.lt_of_lt_of_le (by decide) h)
  have hlt : at19 l < 256 := by unfold at19; exact UInt8.toNat_lt _
  have h19 : 19 < (bs l).size := by rw [bs_size]; omega
  go_enter Try.func30, Try.ntmps30
  go_wp2_with fail
  exact bodyPost_ret (v := .tuple #[.agg zeroP.cells, .int .i64 4]) (by simp [results, Try.results30, go_sem, zeroP, Pk.cells, bs]) rfl ⟨rfl, ((Below.refl _ _).alloc (Nat.le_refl _) _).alloc (by simp) _⟩

set_option maxHeartbeats 1000000 in
theorem rread_long (l : List UInt8) (w : World) (h : 22 ≤ l.length) (hm : l.length ≤ 9223372036854775807) (hne : l.length = 22 + at19 l) (hl : 100 < at19 l) :
    Calls Try.prog 30 #[.string (bs l)] w fun e w' => e = .returned (.tuple #[.agg zeroP.cells, .int .i64 2]) ∧ Below w.heap.size w w' := by
  have hb := at_byte l (Nat.lt_of_lt_of_le (by decide) h)
  have hlt : at19 l < 256 := by unfold at19; exact UInt8.toNat_lt _
  have h19 : 19 < (bs l).size := by rw [bs_size]; omega
  have hne2 : ((l.length : Int) != 22 + (at19 l : Int)) = false := by simp; omega
  clear hne
  go_enter Try.func30, Try.ntmps30
  go_wp2_with fail
  exact bodyPost_ret (v := .tuple #[.agg zeroP.cells, .int .i64 2]) (by simp [results, Try.results30, go_sem, zeroP, Pk.cells, bs]) rfl ⟨rfl, ((Below.refl _ _).alloc (Nat.le_refl _) _).alloc (by simp) _⟩

end Go.Proofs.Ytgpojbgjfibblaa.texts
