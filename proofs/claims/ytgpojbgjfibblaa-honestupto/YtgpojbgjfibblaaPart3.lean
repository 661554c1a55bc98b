/-
  The walk of the document's Write (package gistref). The walks of the document's RouteOf, With and Read (package gistref). Small laws on blocks of memory: eight cells written one by one; what stays below a bound. The walk of the document's Read (package gistref) where the text has the length that it tells. The walks of the program's numbers as bytes (package wire): Text8, Text16, Text32, Number.
  Conditions stand in each theorem.
-/
import Derived.Test.YtgpojbgjfibblaaPart2
import Derived.Test.YtgpojbgjfibblaaPart1
import Derived.WalkKit
import Derived.WalkSpells
import Derived.WalkLawsBesides
import Derived.Deep.DeepCutAuto
namespace Go.Proofs.Ytgpojbgjfibblaa.texts
open Go.RowKit
set_option linter.unusedVariables false
attribute [local go_sem ↓] Go.wp_at_zero Go.wp_at_succ
attribute [local go_sem] bs_size be_length bs_append List.length_append headL_length restL_length hdrL_length

/-- a packet's text, ahead of the sum; the text -/
def bareL (p : Pk) : List UInt8 := hdrL p ++ (be p.body.length 1 ++ p.body)
def textL (p : Pk) : List UInt8 := bareL p ++ be (plain.sumOf (bareL p)) 2
theorem bareL_length (p : Pk) : (bareL p).length = 20 + p.body.length := by simp [bareL, hdrL_length, be_length]; omega

theorem ret_si {a b : ByteArray} {c d : Int} (h : a = b) (g : c = d) : Ending.returned (.tuple #[.string a, .int .i64 c]) = .returned (.tuple #[.string b, .int .i64 d]) := by rw [h, g]

set_option maxHeartbeats 1000000 in
theorem rwrite_long (p : Pk) (w : World) (h : 100 < p.body.length) (h' : p.body.length ≤ 9223372036854775807) :
    Calls Try.prog 28 #[.agg p.cells] w fun e w' => e = .returned (.tuple #[.string (bs []), .int .i64 2]) ∧ Below w.heap.size w w' := by
  unfold Pk.cells
  go_enter Try.func28, Try.ntmps28
  go_wp2_with fail
  go_ret2
  exact ⟨rfl, (Below.refl _ _).alloc (Nat.le_refl _) _⟩

set_option maxHeartbeats 1000000 in
theorem rwrite_good (p : Pk) (w : World) (hp : p.ok) (h : p.body.length ≤ 100) :
    Calls Try.prog 28 #[.agg p.cells] w fun e w' => e = .returned (.tuple #[.string (bs (textL p)), .int .i64 0]) ∧ Below w.heap.size w w' := by
  have Hp := hide hp
  unfold Pk.cells
  go_enter Try.func28, Try.ntmps28
  go_wp2_with (go_at_call 56; refine (flatten_any p _ (unhide Hp)).mono ?_; rintro e w1 ⟨rfl, hb1⟩; unfold Pk.flat; have hc7 := keep_cell (a := ⟨w.heap.size, 7, none⟩) (v := .string (bs p.body)) (by simp) hb1)
  have hbw : Below w.heap.size w w1 := ((Below.refl _ _).alloc (Nat.le_refl _) _).trans (hb1.mono (by simp))
  have hzw : w.heap.size ≤ w1.heap.size := hbw.size
  clear hb1
  have hno : ¬ 9223372036854775807 < 20 + p.body.length := by omega
  go_region_held3 (fun w' => w'.cell? ⟨w1.heap.size, 0, none⟩ = some (.int .u32 p.src) ∧ w'.cell? ⟨w1.heap.size, 1, none⟩ = some (.int .u32 p.dst) ∧ w'.cell? ⟨w1.heap.size, 2, none⟩ = some (.int .u16 p.port) ∧ w'.cell? ⟨w1.heap.size, 3, none⟩ = some (.int .i64 p.seq) ∧ w'.cell? ⟨w1.heap.size, 4, none⟩ = some (.int .i64 p.time) ∧ w'.cell? ⟨w1.heap.size, 5, none⟩ = some (.int .i64 p.id) ∧ w'.cell? ⟨w1.heap.size, 6, none⟩ = some (.int .i64 p.flags) ∧ w'.cell? ⟨w1.heap.size, 7, none⟩ = some (.string (bs p.body)) ∧ w'.cell? ⟨w.heap.size, 7, none⟩ = some (.string (bs p.body)) ∧ Below w.heap.size w w' ∧ w.heap.size ≤ w'.heap.size)
    (first | (go_keep; done) | (refine ⟨by simp, by simp, by simp, by simp, by simp, by simp, by simp, by simp, by go_keep, (hbw.alloc hzw _).drew, by simp; omega⟩) | (go_split_ands; exact ⟨keep_cell (by assumption) hbel, keep_cell (by assumption) hbel, keep_cell (by assumption) hbel, keep_cell (by assumption) hbel, keep_cell (by assumption) hbel, keep_cell (by assumption) hbel, keep_cell (by assumption) hbel, keep_cell (by assumption) hbel, keep_cell (by assumption) hbel, keep_below (by assumption) hbel (by assumption), Nat.le_trans (by assumption) hbel.size⟩))
    ((first | (go_at_call 57; refine (header_any p _ (unhide Hp)).mono ?_; rintro e w' ⟨rfl, hbel⟩) | (go_at_call 58; refine (bytes_any _ _ _ (by omega) (by omega) (by omega) (by omega)).mono ?_; rintro e w' ⟨rfl, hbel⟩)))
  all_goals go_split_ands
  all_goals
    have HB : Below w.heap.size w w' := by assumption
    have HZ : w.heap.size ≤ w'.heap.size := by assumption
    have hlen : (bs (hdrL p ++ (be p.body.length 1 ++ p.body))).size ≤ 1048576 := by rw [bs_size]; have := bareL_length p; unfold bareL at this; omega
    have hS : plain.sumOf (bareL p) ≤ 65535 := by unfold plain.sumOf; omega
    have HS := hide (bs_list (bareL p))
    unfold bareL at HS
    go_wp2_with (first | (go_at_call 16; refine (bits.rsum_any _ _ hlen).mono ?_; rintro e w2 ⟨rfl, rfl⟩; rw [unhide HS]) | (go_at_call 58; refine (bytes_any _ _ _ (by omega) (by unfold bareL at hS; omega) (by omega) (by omega)).mono ?_; rintro e w3 ⟨rfl, hbel3⟩))
    go_ret2
    exact ⟨ret_si (by simp [textL, bareL]) rfl, HB.trans (hbel3.mono HZ)⟩

/-- what Write answers -/
def writeR (p : Pk) : List UInt8 := if p.body.length ≤ 100 then textL p else []
def writeE (p : Pk) : Int := if p.body.length ≤ 100 then 0 else 2
theorem rwrite_any (p : Pk) (w : World) (hp : p.ok) (h' : p.body.length ≤ 9223372036854775807) :
    Calls Try.prog 28 #[.agg p.cells] w fun e w' => e = .returned (.tuple #[.string (bs (writeR p)), .int .i64 (writeE p)]) ∧ Below w.heap.size w w' := by
  unfold writeR writeE
  by_cases h : p.body.length ≤ 100
  · rw [if_pos h, if_pos h]; exact rwrite_good p w hp h
  · rw [if_neg h, if_neg h]; exact rwrite_long p w (by omega) h'

end Go.Proofs.Ytgpojbgjfibblaa.texts

namespace Go.Proofs.Ytgpojbgjfibblaa.texts
open Go.RowKit
set_option linter.unusedVariables false

theorem bs_extract (l : List UInt8) (a b : Nat) : (bs l).extract a b = bs ((l.take b).drop a) := by
  apply ByteArray.ext
  rw [ByteArray.data_extract]
  apply Array.ext'
  simp [bs, List.extract_eq_take_drop, List.drop_take]

theorem wrap32 {n : Nat} (h : n < 4294967296) : IntKind.u32.wrap (n : Int) = n := by rw [IntKind.wrap_u32']; omega
theorem numOf_lt' {l : List UInt8} (k : Nat) (h : l.length ≤ k) : numOf l < 256 ^ k := Nat.lt_of_lt_of_le (numOf_lt l) (Nat.pow_le_pow_right (by decide) h)

attribute [local go_sem ↓] Go.wp_at_zero Go.wp_at_succ
attribute [local go_sem] bs_size be_length bs_append List.length_append headL_length restL_length hdrL_length bs_extract bs_list

set_option maxHeartbeats 1000000 in
theorem routeOf_any (l : List UInt8) (w : World) (hl : l.length = 10) :
    Calls Try.prog 61 #[.string (bs l)] w fun e w' => e = .returned (.agg #[.int .u32 (numOf (l.take 4) : Nat), .int .u32 (numOf ((l.take 8).drop 4) : Nat), .int .u16 (numOf ((l.take 10).drop 8) : Nat)]) ∧ Below w.heap.size w w' := by
  have e1 : IntKind.u32.wrap ((numOf (l.take 4) : Nat) : Int) = (numOf (l.take 4) : Nat) := wrap32 (numOf_lt' 4 (by simp; omega))
  have e2 : IntKind.u32.wrap ((numOf ((l.take 8).drop 4) : Nat) : Int) = (numOf ((l.take 8).drop 4) : Nat) := wrap32 (numOf_lt' 4 (by simp; omega))
  have e3 : IntKind.u16.wrap ((numOf ((l.take 10).drop 8) : Nat) : Int) = (numOf ((l.take 10).drop 8) : Nat) := wrap16 (numOf_lt' 2 (by simp; omega))
  go_enter Try.func61, Try.ntmps61
  go_wp2_with fail
  go_region_held3 (fun _ => True) (trivial)
    ((go_at_call 94; refine (number_any _ _ (by rw [bs_size]; simp; omega)).mono ?_; rintro e w' ⟨rfl, rfl⟩))
  all_goals go_wp2
  all_goals exact bodyPost_ret (v := .agg #[.int .u32 (numOf (l.take 4) : Nat), .int .u32 (numOf ((l.take 8).drop 4) : Nat), .int .u16 (numOf ((l.take 10).drop 8) : Nat)]) (by simp [results, Try.results61, go_sem]) rfl ⟨rfl, ((Below.refl _ _).alloc (Nat.le_refl _) _).drew⟩

/-- a packet whose numbers stand in nine bytes -/
def withP (a b c : Nat) (l body : List UInt8) : Pk :=
  { src := a, dst := b, port := c, seq := numOf (l.take 2), time := numOf ((l.take 6).drop 2), id := numOf ((l.take 8).drop 6), flags := numOf ((l.take 9).drop 8), body := body }

set_option maxHeartbeats 1000000 in
theorem with_any (a b c : Nat) (l body : List UInt8) (w : World) (hl : l.length = 9) :
    Calls Try.prog 60 #[.agg #[.int .u32 a, .int .u32 b, .int .u16 c], .string (bs l), .string (bs body)] w fun e w' => e = .returned (.agg (withP a b c l body).flat) ∧ Below w.heap.size w w' := by
  unfold withP Pk.flat
  go_enter Try.func60, Try.ntmps60
  go_wp2_with fail
  go_region_held3 (fun w' => w'.cell? ⟨w.heap.size, 0, none⟩ = some (.int .u32 a) ∧ w'.cell? ⟨w.heap.size, 1, none⟩ = some (.int .u32 b) ∧ w'.cell? ⟨w.heap.size, 2, none⟩ = some (.int .u16 c)) (first | (go_keep; done) | (simp; done))
    ((go_at_call 94; refine (number_any _ _ (by rw [bs_size]; simp; omega)).mono ?_; rintro e w' ⟨rfl, rfl⟩))
  all_goals go_wp2
  all_goals exact bodyPost_ret (v := .agg (withP a b c l body).flat) (by simp [results, Try.results60, go_sem, withP, Pk.flat]) rfl ⟨rfl, (((Below.refl _ _).alloc (Nat.le_refl _) _).alloc (by simp) _).drew⟩

/-- a packet of noughts -/
def zeroP : Pk := { src := 0, dst := 0, port := 0, seq := 0, time := 0, id := 0, flags := 0, body := [] }
/-- byte 19; the packet that a text seems to tell; what Read answers -/
def at19 (l : List UInt8) : Nat := (l[19]?.getD 0).toNat
def seemP (l : List UInt8) : Pk :=
  withP (numOf ((l.take 10).take 4)) (numOf (((l.take 10).take 8).drop 4)) (numOf (((l.take 10).take 10).drop 8)) ((l.take 19).drop 10) ((l.take (20 + at19 l)).drop 20)
def readE (l : List UInt8) : Int :=
  if l.length < 22 then 4 else if ¬ l.length = 22 + at19 l then 4 else if 100 < at19 l then 2 else if textL (seemP l) = l then 0 else 5
def readR (l : List UInt8) : Pk := if readE l = 0 then seemP l else zeroP

theorem seem_ok (l : List UInt8) : (seemP l).ok := by
  unfold seemP withP
  constructor
  · exact numOf_lt' 4 (by simp; omega)
  · exact numOf_lt' 4 (by simp; omega)
  · exact numOf_lt' 2 (by simp; omega)
  · exact numOf_lt' 2 (by simp; omega)
  · exact numOf_lt' 4 (by simp; omega)
  · exact numOf_lt' 2 (by simp; omega)
  · exact numOf_lt' 1 (by simp; omega)

theorem readR_bad {l : List UInt8} (h : readE l ≠ 0) : readR l = zeroP := by unfold readR; rw [if_neg h]

set_option maxHeartbeats 1000000 in
theorem rread_few (l : List UInt8) (w : World) (h : l.length < 22) :
    Calls Try.prog 30 #[.string (bs l)] w fun e w' => e = .returned (.tuple #[.agg zeroP.cells, .int .i64 4]) ∧ Below w.heap.size w w' := by
  go_enter Try.func30, Try.ntmps30
  go_wp2_with fail
  exact bodyPost_ret (v := .tuple #[.agg zeroP.cells, .int .i64 4]) (by simp [results, Try.results30, go_sem, zeroP, Pk.cells, bs]) rfl ⟨rfl, ((Below.refl _ _).alloc (Nat.le_refl _) _).alloc (by simp) _⟩

theorem at_byte (l : List UInt8) (h : 19 < l.length) : ((bs l)[19]'(by rw [bs_size]; exact h)).toNat = at19 l := by
  unfold at19
  rw [List.getElem?_eq_getElem h]
  rfl

set_option maxHeartbeats 1000000 in
theorem rread_else (l : List UInt8) (w : World) (h : 22 ≤ l.length) (hm : l.length ≤ 9223372036854775807) (hne : ¬ l.length = 22 + at19 l) :
    Calls Try.prog 30 #[.string (bs l)] w fun e w' => e = .returned (.tuple #[.agg zeroP.cells, .int .i64 4]) ∧ Below w.heap.size w w' := by
  have hb := at_byte l (Nat.lt_of_lt_of_le (by decide) h)
  have hlt : at19 l < 256 := by unfold at19; exact UInt8.toNat_lt _
  have h19 : 19 < (bs l).size := by rw [bs_size]; omega
  go_enter Try.func30, Try.ntmps30
  go_wp2_with fail
  exact bodyPost_ret (v := .tuple #[.agg zeroP.cells, .int .i64 4]) (by simp [results, Try.results30, go_sem, zeroP, Pk.cells, bs]) rfl ⟨rfl, ((Below.refl _ _).alloc (Nat.le_refl _) _).alloc (by simp) _⟩

set_option maxHeartbeats 1000000 in
theorem rread_long (l : List UInt8) (w : World) (h : 22 ≤ l.length) (hm : l.length ≤ 9223372036854775807) (hne : l.length = 22 + at19 l) (hl : 100 < at19 l) :
    Calls Try.prog 30 #[.string (bs l)] w fun e w' => e = .returned (.tuple #[.agg zeroP.cells, .int .i64 2]) ∧ Below w.heap.size w w' := by
  have hb := at_byte l (Nat.lt_of_lt_of_le (by decide) h)
  have hlt : at19 l < 256 := by unfold at19; exact UInt8.toNat_lt _
  have h19 : 19 < (bs l).size := by rw [bs_size]; omega
  have hne2 : ((l.length : Int) != 22 + (at19 l : Int)) = false := by simp; omega
  clear hne
  go_enter Try.func30, Try.ntmps30
  go_wp2_with fail
  exact bodyPost_ret (v := .tuple #[.agg zeroP.cells, .int .i64 2]) (by simp [results, Try.results30, go_sem, zeroP, Pk.cells, bs]) rfl ⟨rfl, ((Below.refl _ _).alloc (Nat.le_refl _) _).alloc (by simp) _⟩

end Go.Proofs.Ytgpojbgjfibblaa.texts

namespace Go.Proofs.Ytgpojbgjfibblaa.texts
open Go.RowKit
set_option linter.unusedVariables false

theorem set8 (z : Array Value) (hz : z.size = 8) (a b c d e f i j : Value) :
    (((((((z.setIfInBounds 0 a).setIfInBounds 1 b).setIfInBounds 2 c).setIfInBounds 3 d).setIfInBounds 4 e).setIfInBounds 5 f).setIfInBounds 6 i).setIfInBounds 7 j = #[a, b, c, d, e, f, i, j] := by
  obtain ⟨l⟩ := z
  obtain ⟨x0, x1, x2, x3, x4, x5, x6, x7, rfl⟩ : ∃ x0 x1 x2 x3 x4 x5 x6 x7, l = [x0, x1, x2, x3, x4, x5, x6, x7] := by
    match l, hz with
    | [x0, x1, x2, x3, x4, x5, x6, x7], _ => exact ⟨x0, x1, x2, x3, x4, x5, x6, x7, rfl⟩
  simp only [List.setIfInBounds_toArray, List.set_cons_zero, List.set_cons_succ]

/-- eight cells of a block are written -/
theorem fill8 (w : World) (g : Nat) (z : Array Value) (t : TypeId) (h : w.heap[g]? = some (.cells z t (0, 0))) (hz : z.size = 8) (a b c d e f i j : Value) :
    ((((((((w.setCell ⟨g, 0, none⟩ a).setCell ⟨g, 1, none⟩ b).setCell ⟨g, 2, none⟩ c).setCell ⟨g, 3, none⟩ d).setCell ⟨g, 4, none⟩ e).setCell ⟨g, 5, none⟩ f).setCell ⟨g, 6, none⟩ i).setCell ⟨g, 7, none⟩ j).heap[g]? = some (.cells #[a, b, c, d, e, f, i, j] t (0, 0)) := by
  have h0 := heap_setCell_same w g 0 z t a h
  have h1 := heap_setCell_same _ g 1 _ t b h0
  have h2 := heap_setCell_same _ g 2 _ t c h1
  have h3 := heap_setCell_same _ g 3 _ t d h2
  have h4 := heap_setCell_same _ g 4 _ t e h3
  have h5 := heap_setCell_same _ g 5 _ t f h4
  have h6 := heap_setCell_same _ g 6 _ t i h5
  have h7 := heap_setCell_same _ g 7 _ t j h6
  rw [h7, set8 z hz]

/-- a block that is known whole: its cells, and that none is frozen -/
theorem block_cell {w : World} {g : Nat} {z : Array Value} {t : TypeId} (h : w.heap[g]? = some (.cells z t (0, 0))) (i : Nat) : w.cell? ⟨g, i, none⟩ = z[i]? := cell_of_row w g i z t (0, 0) h
theorem block_free {w : World} {g : Nat} {z : Array Value} {t : TypeId} (h : w.heap[g]? = some (.cells z t (0, 0))) (i : Nat) : w.frozen? ⟨g, i, none⟩ = false := frozen_of_row w g i z t h
theorem block_lt {w : World} {g : Nat} {o : Obj} (h : w.heap[g]? = some o) : g < w.heap.size := (Array.getElem?_eq_some_iff.1 h).1
theorem block_keep {w w2 : World} {g : Nat} {o : Obj} (h : w.heap[g]? = some o) (hb : Below w.heap.size w w2) : w2.heap[g]? = some o := by rw [hb.block g (block_lt h)]; exact h
theorem block_alloc {w : World} {g : Nat} {o : Obj} (h : w.heap[g]? = some o) (o2 : Obj) : (w.alloc o2).heap[g]? = some o := by rw [Below.heap_alloc _ _ _ (block_lt h)]; exact h
theorem block_set {w : World} {g : Nat} {o : Obj} (h : w.heap[g]? = some o) {a : Addr} (ha : g ≠ a.block) (v : Value) : (w.setCell a v).heap[g]? = some o := by rw [Below.heap_setCell _ _ _ _ ha]; exact h

/-- the world has only grown: a call, a block more -/
theorem grew_call {w w1 w2 : World} (h : Below w.heap.size w w1) (hb : Below w1.heap.size w1 w2) : Below w.heap.size w w2 := h.trans (hb.mono h.size)
theorem grew_alloc {w w1 : World} (h : Below w.heap.size w w1) (o : Obj) : Below w.heap.size w (w1.alloc o) := h.alloc h.size o

end Go.Proofs.Ytgpojbgjfibblaa.texts

namespace Go.Proofs.Ytgpojbgjfibblaa.texts
open Go.RowKit
set_option linter.unusedVariables false
attribute [local go_sem ↓] Go.wp_at_zero Go.wp_at_succ
attribute [local go_sem] bs_size be_length bs_append List.length_append headL_length restL_length hdrL_length bs_extract bs_list bs_toList

theorem bcell {W w1 : World} (hb : Below W.heap.size W w1) : (∀ b o, b < W.heap.size → w1.cell? ⟨b, o, none⟩ = W.cell? ⟨b, o, none⟩) ∧ (∀ b o, b < W.heap.size → w1.frozen? ⟨b, o, none⟩ = W.frozen? ⟨b, o, none⟩) :=
  ⟨fun b o h => hb.cell (p := ⟨b, o, none⟩) h, fun b o h => hb.frozen (p := ⟨b, o, none⟩) h⟩

/-- the two packets of noughts with which Read begins lie untouched -/
structure Two (w w' : World) : Prop where
  one : w'.heap[w.heap.size]? = some (.cells zeroP.cells 51 (0, 0))
  two : w'.heap[w.heap.size + 1]? = some (.cells zeroP.cells 51 (0, 0))
  below : Below w.heap.size w w'
  size : w.heap.size + 1 < w'.heap.size
theorem two_start0 (w : World) : Two w ((w.alloc (.cells zeroP.cells 51)).alloc (.cells zeroP.cells 51)) := by
  refine ⟨block_alloc (heap_alloc_new w _) _, ?_, ((Below.refl _ _).alloc (Nat.le_refl _) _).alloc (by simp) _, by simp⟩
  have h := heap_alloc_new (w.alloc (.cells zeroP.cells 51)) (.cells zeroP.cells 51)
  simpa using h
theorem two_drew {w w1 : World} (h : Two w w1) : Two w w1.drew := ⟨h.one, h.two, h.below.drew, h.size⟩
theorem two_start (w : World) : Two w ((w.alloc (.cells zeroP.cells 51)).alloc (.cells zeroP.cells 51)).drew := two_drew (two_start0 w)
theorem third_block (w : World) (o1 o2 o3 : Obj) : ((((w.alloc o1).alloc o2).alloc o3).drew).heap[w.heap.size + 1 + 1]? = some o3 := by
  have h := heap_alloc_new ((w.alloc o1).alloc o2) o3
  rw [World.size_alloc, World.size_alloc] at h
  exact h
theorem two_call {w w1 w2 : World} (h : Two w w1) (hb : Below w1.heap.size w1 w2) : Two w w2 :=
  ⟨block_keep h.one hb, block_keep h.two hb, h.below.trans (hb.mono (by have := h.size; omega)), Nat.lt_of_lt_of_le h.size hb.size⟩
theorem two_alloc {w w1 : World} (h : Two w w1) (o : Obj) : Two w (w1.alloc o) :=
  ⟨block_alloc h.one _, block_alloc h.two _, h.below.alloc (by have := h.size; omega) _, by have := h.size; simp; omega⟩
theorem two_swap {w w1 : World} {o : Obj} (h : Two w (w1.alloc o)) (hz : w.heap.size + 1 < w1.heap.size) (o2 : Obj) : Two w (w1.alloc o2) := by
  refine two_alloc ⟨?_, ?_, ?_, hz⟩ o2
  · rw [← Below.heap_alloc w1 o _ (by omega)]; exact h.one
  · rw [← Below.heap_alloc w1 o _ hz]; exact h.two
  · exact ⟨h.below.os, h.below.tape, h.below.output, by omega, fun k hk => by rw [← Below.heap_alloc w1 o _ (by omega)]; exact h.below.block k hk⟩
theorem two_set {w w1 : World} (h : Two w w1) {a : Addr} (ha : w.heap.size + 1 < a.block) (v : Value) : Two w (w1.setCell a v) :=
  ⟨block_set h.one (by omega) _, block_set h.two (by omega) _, h.below.setCell (by omega) _, by simpa using h.size⟩

theorem flat_eq (l : List UInt8) : (seemP l).flat = #[.int .u32 (numOf ((l.take 10).take 4) : Nat), .int .u32 (numOf (((l.take 10).take 8).drop 4) : Nat), .int .u16 (numOf (((l.take 10).take 10).drop 8) : Nat),
    .int .i64 (numOf (((l.take 19).drop 10).take 2) : Nat), .int .i64 (numOf ((((l.take 19).drop 10).take 6).drop 2) : Nat), .int .i64 (numOf ((((l.take 19).drop 10).take 8).drop 6) : Nat), .int .i64 (numOf ((((l.take 19).drop 10).take 9).drop 8) : Nat),
    .string (bs ((l.take (20 + (at19 l : Int)).toNat).drop 20))] := by
  rw [show (20 + (at19 l : Int)).toNat = 20 + at19 l by omega]
  rfl

theorem flat8 {w : World} {g : Nat} {p : Pk} {t : TypeId} (h : w.heap[g]? = some (.cells p.flat t (0, 0))) :
    w.cell? ⟨g, 0, none⟩ = some (.int .u32 p.src) ∧ w.cell? ⟨g, 1, none⟩ = some (.int .u32 p.dst) ∧ w.cell? ⟨g, 2, none⟩ = some (.int .u16 p.port) ∧ w.cell? ⟨g, 3, none⟩ = some (.int .i64 p.seq) ∧
    w.cell? ⟨g, 4, none⟩ = some (.int .i64 p.time) ∧ w.cell? ⟨g, 5, none⟩ = some (.int .i64 p.id) ∧ w.cell? ⟨g, 6, none⟩ = some (.int .i64 p.flags) ∧ w.cell? ⟨g, 7, none⟩ = some (.string (bs p.body)) :=
  ⟨block_cell h 0, block_cell h 1, block_cell h 2, block_cell h 3, block_cell h 4, block_cell h 5, block_cell h 6, block_cell h 7⟩
theorem cells8 {w : World} {g : Nat} {p : Pk} {t : TypeId} (h : w.heap[g]? = some (.cells p.cells t (0, 0))) :
    w.cell? ⟨g, 0, none⟩ = some (.int .u32 p.src) ∧ w.cell? ⟨g, 1, none⟩ = some (.int .u32 p.dst) ∧ w.cell? ⟨g, 2, none⟩ = some (.int .u16 p.port) ∧ w.cell? ⟨g, 3, none⟩ = some (.int .u16 p.seq) ∧
    w.cell? ⟨g, 4, none⟩ = some (.int .u32 p.time) ∧ w.cell? ⟨g, 5, none⟩ = some (.int .u16 p.id) ∧ w.cell? ⟨g, 6, none⟩ = some (.int .u8 p.flags) ∧ w.cell? ⟨g, 7, none⟩ = some (.string (bs p.body)) :=
  ⟨block_cell h 0, block_cell h 1, block_cell h 2, block_cell h 3, block_cell h 4, block_cell h 5, block_cell h 6, block_cell h 7⟩
theorem free8 {w : World} {g : Nat} {z : Array Value} {t : TypeId} (h : w.heap[g]? = some (.cells z t (0, 0))) :
    w.frozen? ⟨g, 0, none⟩ = false ∧ w.frozen? ⟨g, 1, none⟩ = false ∧ w.frozen? ⟨g, 2, none⟩ = false ∧ w.frozen? ⟨g, 3, none⟩ = false ∧ w.frozen? ⟨g, 4, none⟩ = false ∧ w.frozen? ⟨g, 5, none⟩ = false ∧ w.frozen? ⟨g, 6, none⟩ = false ∧ w.frozen? ⟨g, 7, none⟩ = false :=
  ⟨block_free h 0, block_free h 1, block_free h 2, block_free h 3, block_free h 4, block_free h 5, block_free h 6, block_free h 7⟩

theorem read_put (p : Pk) (g : Nat) {B : Nat} {w w2 : World} {z : Array Value} {t : TypeId} (hg : B ≤ g) (hb : Below B w w2) (h : w2.heap[g]? = some (.cells z t (0, 0))) (hz : z.size = 8 := by rfl) :
    ((((((((w2.setCell ⟨g, 0, none⟩ (.int .u32 p.src)).setCell ⟨g, 1, none⟩ (.int .u32 p.dst)).setCell ⟨g, 2, none⟩ (.int .u16 p.port)).setCell ⟨g, 3, none⟩ (.int .u16 p.seq)).setCell ⟨g, 4, none⟩ (.int .u32 p.time)).setCell ⟨g, 5, none⟩ (.int .u16 p.id)).setCell ⟨g, 6, none⟩ (.int .u8 p.flags)).setCell ⟨g, 7, none⟩ (.string (bs p.body))).heap[g]? = some (.cells p.cells t (0, 0)) ∧
    Below B w ((((((((w2.setCell ⟨g, 0, none⟩ (.int .u32 p.src)).setCell ⟨g, 1, none⟩ (.int .u32 p.dst)).setCell ⟨g, 2, none⟩ (.int .u16 p.port)).setCell ⟨g, 3, none⟩ (.int .u16 p.seq)).setCell ⟨g, 4, none⟩ (.int .u32 p.time)).setCell ⟨g, 5, none⟩ (.int .u16 p.id)).setCell ⟨g, 6, none⟩ (.int .u8 p.flags)).setCell ⟨g, 7, none⟩ (.string (bs p.body))) :=
  ⟨fill8 w2 g z t h hz _ _ _ _ _ _ _ _, (((((((hb.setCell hg _).setCell hg _).setCell hg _).setCell hg _).setCell hg _).setCell hg _).setCell hg _).setCell hg _⟩

theorem read_fin (l : List UInt8) (h : 22 ≤ l.length) (hne : l.length = 22 + at19 l) (hl : at19 l ≤ 100) :
    (writeR (seemP l) = l → readE l = 0 ∧ readR l = seemP l) ∧ (writeR (seemP l) ≠ l → readE l = 5 ∧ readR l = zeroP) := by
  have hbody : (seemP l).body.length ≤ 100 := by simp [seemP, withP]; omega
  have e : writeR (seemP l) = textL (seemP l) := by unfold writeR; rw [if_pos hbody]
  have e2 : readE l = if textL (seemP l) = l then 0 else 5 := by
    unfold readE
    rw [if_neg (by omega), if_neg (by omega), if_neg (by omega)]
  rw [e]
  unfold readR
  rw [e2]
  constructor
  · intro h1; rw [if_pos h1]; exact ⟨rfl, if_pos rfl⟩
  · intro h1; rw [if_neg h1]; exact ⟨rfl, if_neg (by decide)⟩

set_option maxHeartbeats 2000000 in
theorem rread_rest (l : List UInt8) (w : World) (h : 22 ≤ l.length) (hm : l.length ≤ 9223372036854775807) (hne : l.length = 22 + at19 l) (hl : at19 l ≤ 100) :
    Calls Try.prog 30 #[.string (bs l)] w fun e w' => e = .returned (.tuple #[.agg (readR l).cells, .int .i64 (readE l)]) ∧ Below w.heap.size w w' := by
  have hb := at_byte l (Nat.lt_of_lt_of_le (by decide) h)
  have hlt : at19 l < 256 := by unfold at19; exact UInt8.toNat_lt _
  have h19 : 19 < (bs l).size := by rw [bs_size]; omega
  have hne2 : ((l.length : Int) != 22 + (at19 l : Int)) = false := by simp; omega
  have hw20 : IntKind.i64.wrap (20 + (at19 l : Int)) = 20 + (at19 l : Int) := wrap_id (by omega) (by omega)
  have hb1 : (0 : Int) ≤ 20 + (at19 l : Int) := by omega
  have hb2 : (20 : Int) ≤ 20 + (at19 l : Int) := by omega
  have hb3 : 20 + (at19 l : Int) ≤ (l.length : Int) := by omega
  have hb4 : (10 : Int) ≤ (l.length : Int) := by omega
  have hb5 : (19 : Int) ≤ (l.length : Int) := by omega
  have hne3 := hide hne
  clear hne
  go_enter Try.func30, Try.ntmps30
  go_wp2_with fail
  go_cut [6] (fun v wr => ∃ g, v = .pointer (some ⟨g, 0, none⟩) ∧ wr.heap[g]? = some (.cells (seemP l).flat 112 (0, 0)) ∧ w.heap.size + 1 < g ∧ Two w wr)
  case first =>
    go_region_held3 (fun _ => True) (trivial)
      ((first | (go_at_call 61; refine (routeOf_any _ _ (by simp; omega)).mono ?_; rintro e wA ⟨rfl, hbelA⟩; obtain ⟨hccA, hffA⟩ := bcell hbelA; have hzA := hbelA.size; (try simp at hzA); have hz1A : w.heap.size + 1 < wA.heap.size := (by omega); have hz0A : w.heap.size < wA.heap.size := (by omega); try (have hz2A : w.heap.size + 1 + 1 < wA.heap.size := (by omega))) | (go_at_call 60; refine (with_any _ _ _ _ _ _ (by simp; omega)).mono ?_; rintro e wB ⟨rfl, hbelB⟩; unfold withP Pk.flat; obtain ⟨hccB, hffB⟩ := bcell hbelB; have hzB := hbelB.size; (try simp at hzB); have hz1B : w.heap.size + 1 < wB.heap.size := (by omega); have hz0B : w.heap.size < wB.heap.size := (by omega); try (have hz2B : w.heap.size + 1 + 1 < wB.heap.size := (by omega)))))
    all_goals go_wp2_with fail
    all_goals go_meet
    · clear hccA hffA hccB hffB
      refine ⟨wB.heap.size, rfl, ?_, hz1B, two_alloc (two_call (two_call (two_start w) hbelA) hbelB) _⟩
      rw [heap_alloc_new, flat_eq l]
    · clear hccA hffA hccB hffB
      refine ⟨wA.heap.size, rfl, ?_, hz1A, two_set (two_set (two_set (two_set (two_set (two_set (two_set (two_set (two_call (two_alloc (two_call (two_start w) hbelA) _) hbelB) hz1A _) hz1A _) hz1A _) hz1A _) hz1A _) hz1A _) hz1A _) hz1A _⟩
      rw [fill8 wB wA.heap.size _ _ (block_keep (heap_alloc_new wA _) hbelB) rfl, flat_eq l]
    · clear hccA hffA hccB hffB
      refine ⟨w.heap.size + 1 + 1, rfl, ?_, by omega, two_set (two_set (two_set (two_set (two_set (two_set (two_set (two_set (two_call (two_call (two_drew (two_alloc (two_start0 w) _)) hbelA) hbelB) (Nat.lt_succ_self _) _) (Nat.lt_succ_self _) _) (Nat.lt_succ_self _) _) (Nat.lt_succ_self _) _) (Nat.lt_succ_self _) _) (Nat.lt_succ_self _) _) (Nat.lt_succ_self _) _) (Nat.lt_succ_self _) _⟩
      rw [fill8 wB (w.heap.size + 1 + 1) _ _ (block_keep (block_keep (third_block w _ _ _) hbelA) hbelB) rfl, flat_eq l]
  case rest =>
    obtain ⟨g, rfl, hg, hgz, htwo⟩ := hcut
    have hok := seem_ok l
    have hbody : (seemP l).body.length ≤ 100 := by simp [seemP, withP]; omega
    have hfin := hide (read_fin l h (unhide hne3) hl)
    have HK := hide hok
    have HT := hide htwo
    have HG := hide hg
    generalize seemP l = p at *
    clear htwo hok
    by_cases hq : writeR p = l
    · have hq2 : (writeR p == l) = true := by rw [hq]; simp
      have Hq := hide hq
      clear hq
      obtain ⟨c0, c1, c2, c3, c4, c5, c6, c7⟩ := flat8 hg
      clear hg
      go_wp2_with (first | (go_at_call 28; refine (rwrite_any p _ (unhide HK) (by omega)).mono ?_; rintro e w3 ⟨rfl, hbel3⟩; have T3 := hide (two_call (two_call (unhide HT) (unhide HBel2)) hbel3); have G3 := block_keep (block_keep (unhide HG) (unhide HBel2)) hbel3; obtain ⟨d0, d1, d2, d3, d4, d5, d6, d7⟩ := flat8 G3; clear G3 hbel3) | (go_at_call 62; refine (packet_any p _ (unhide HK)).mono ?_; rintro e w2 ⟨rfl, hbel2⟩; first | (have T4 := two_call (unhide T3) hbel2; obtain ⟨e0, e1, e2, e3, e4, e5, e6, e7⟩ := cells8 T4.one; obtain ⟨f0, f1, f2, f3, f4, f5, f6, f7⟩ := free8 T4.one; have TT := hide T4; clear T4 hbel2; unfold Pk.cells) | (have HBel2 := hide hbel2; clear hbel2)))
      have hone := (unhide TT).one
      have hB := read_put p w.heap.size (Nat.le_refl _) (unhide TT).below hone
      obtain ⟨r0, r1, r2, r3, r4, r5, r6, r7⟩ := cells8 hB.1
      obtain ⟨q1, q2⟩ := (unhide hfin).1 (unhide Hq)
      rw [q1, q2]
      exact bodyPost_ret (v := .tuple #[.agg p.cells, .int .i64 0]) (by simp [results, Try.results30, go_sem, Pk.cells, r0, r1, r2, r3, r4, r5, r6, r7]) rfl ⟨rfl, hB.2⟩
    · have hq2 : (writeR p == l) = false := by
        rw [beq_eq_false_iff_ne]; exact hq
      have Hq := hide hq
      clear hq
      obtain ⟨c0, c1, c2, c3, c4, c5, c6, c7⟩ := flat8 hg
      clear hg
      go_wp2_with (first | (go_at_call 28; refine (rwrite_any p _ (unhide HK) (by omega)).mono ?_; rintro e w3 ⟨rfl, hbel3⟩; have T3 := two_call (two_call (unhide HT) (unhide HBel2)) hbel3; obtain ⟨d0, d1, d2, d3, d4, d5, d6, d7⟩ := cells8 T3.two; obtain ⟨e0, e1, e2, e3, e4, e5, e6, e7⟩ := cells8 T3.one; obtain ⟨f0, f1, f2, f3, f4, f5, f6, f7⟩ := free8 T3.one; have TT := hide T3; clear T3 hbel3) | (go_at_call 62; refine (packet_any p _ (unhide HK)).mono ?_; rintro e w2 ⟨rfl, hbel2⟩; have HBel2 := hide hbel2; clear hbel2))
      have hone := (unhide TT).one
      have hB := read_put zeroP w.heap.size (Nat.le_refl _) (unhide TT).below hone
      obtain ⟨r0, r1, r2, r3, r4, r5, r6, r7⟩ := cells8 hB.1
      obtain ⟨q1, q2⟩ := (unhide hfin).2 (unhide Hq)
      rw [q1, q2]
      exact bodyPost_ret (v := .tuple #[.agg zeroP.cells, .int .i64 5]) (by simp [results, Try.results30, go_sem, Pk.cells, r0, r1, r2, r3, r4, r5, r6, r7]) rfl ⟨rfl, hB.2⟩

theorem rread_any (l : List UInt8) (w : World) (hm : l.length ≤ 9223372036854775807) :
    Calls Try.prog 30 #[.string (bs l)] w fun e w' => e = .returned (.tuple #[.agg (readR l).cells, .int .i64 (readE l)]) ∧ Below w.heap.size w w' := by
  by_cases h1 : l.length < 22
  · have e : readE l = 4 := by unfold readE; rw [if_pos h1]
    rw [readR_bad (by rw [e]; decide), e]
    exact rread_few l w h1
  · by_cases h2 : l.length = 22 + at19 l
    · by_cases h3 : 100 < at19 l
      · have e : readE l = 2 := by unfold readE; rw [if_neg h1, if_neg (by omega), if_pos h3]
        rw [readR_bad (by rw [e]; decide), e]
        exact rread_long l w (by omega) hm h2 h3
      · exact rread_rest l w (by omega) hm h2 (by omega)
    · have e : readE l = 4 := by unfold readE; rw [if_neg h1, if_pos h2]
      rw [readR_bad (by rw [e]; decide), e]
      exact rread_else l w (by omega) hm h2

end Go.Proofs.Ytgpojbgjfibblaa.texts

namespace Go.Proofs.Ytgpojbgjfibblaa.texts
open Go.RowKit
set_option linter.unusedVariables false
attribute [local go_sem ↓] Go.wp_at_zero Go.wp_at_succ
attribute [local go_sem] bs_size be_length bs_append List.length_append

theorem wbe1 (n : Nat) (h : n < 256) : be n 1 = [UInt8.ofNat n] := by
  simp [be, Nat.mod_eq_of_lt h]
theorem wbe2 (n : Nat) : be n 2 = [UInt8.ofNat (n / 256 % 256), UInt8.ofNat (n % 256)] := by
  simp [be]
theorem wbe4 (n : Nat) : be n 4 = be (n / 65536) 2 ++ be (n % 65536) 2 := by
  have e1 : n / 65536 % 256 = n / 256 / 256 % 256 := by omega
  have e2 : n % 65536 / 256 % 256 = n / 256 % 256 := by omega
  have e3 : n % 65536 % 256 = n % 256 := by omega
  have e4 : n / 65536 / 256 % 256 = n / 256 / 256 / 256 % 256 := by omega
  rw [wbe2, wbe2, e1, e2, e3, e4]
  simp [be]

/-- 'string([]byte{x, y})': the text of two bytes -/
theorem two_bytes (w : World) (x y : Int) (m n : Nat) (h0 : x = m) (h1 : m < 256) (g0 : y = n) (g1 : n < 256) :
    (convert 61 9 (.slice (some ⟨w.heap.size, 0, none⟩) 2 2)).run Try.prog (w.alloc (.cells #[.int .u8 x, .int .u8 y] 5)) = .ok (.string (bs [UInt8.ofNat m, UInt8.ofNat n])) (w.alloc (.cells #[.int .u8 x, .int .u8 y] 5)) := by
  have h := run_convert_bytes_back (P := Try.prog) (w.alloc (.cells #[.int .u8 x, .int .u8 y] 5)) 61 9 5 ⟨w.heap.size, 0, none⟩ 2 [UInt8.ofNat m, UInt8.ofNat n] Try.underlying61 Try.underlying5 Try.underlying9 (fun j hj => by
    subst h0 g0
    match j, hj with
    | 0, _ => simp [Addr.add]; omega
    | 1, _ => simp [Addr.add]; omega)
  exact h

set_option maxHeartbeats 400000 in
theorem text8_any (n : Int) (w : World) (h0 : 0 ≤ n) (h1 : n < 256) :
    Calls Try.prog 89 #[.int .u8 n] w fun e w' => e = .returned (.string (bs (be n.toNat 1))) ∧ Below w.heap.size w w' := by
  obtain ⟨n, rfl⟩ := Int.eq_ofNat_of_zero_le h0
  have hcv := one_byte w (n : Int) n rfl (by omega)
  go_enter Try.func89, Try.ntmps89
  go_wp2
  go_ret
  exact ⟨ret_str (by rw [Int.toNat_natCast, wbe1 n (by omega)]), (Below.refl _ _).alloc (Nat.le_refl _) _⟩

set_option maxHeartbeats 400000 in
theorem text16_any (n : Int) (w : World) (h0 : 0 ≤ n) (h1 : n < 65536) :
    Calls Try.prog 90 #[.int .u16 n] w fun e w' => e = .returned (.string (bs (be n.toNat 2))) ∧ Below w.heap.size w w' := by
  obtain ⟨n, rfl⟩ := Int.eq_ofNat_of_zero_le h0
  have hcv := two_bytes w ((n : Int) / 256) ((n : Int) % 256) (n / 256) (n % 256) (by omega) (by omega) (by omega) (by omega)
  go_enter Try.func90, Try.ntmps90
  go_wp2
  go_ret
  exact ⟨ret_str (by rw [Int.toNat_natCast, wbe2, Nat.mod_eq_of_lt (show n / 256 < 256 by omega)]), (Below.refl _ _).alloc (Nat.le_refl _) _⟩

set_option maxHeartbeats 400000 in
theorem text32_any (n : Int) (w : World) (h0 : 0 ≤ n) (h1 : n < 4294967296) :
    Calls Try.prog 107 #[.int .u32 n] w fun e w' => e = .returned (.string (bs (be n.toNat 4))) ∧ Below w.heap.size w w' := by
  have hw : IntKind.u16.wrap n = n % 65536 := IntKind.wrap_u16 n
  go_enter Try.func107, Try.ntmps107
  go_wp2_with (first | (go_at_call 90; refine (text16_any _ _ (by omega) (by omega)).mono ?_; rintro e w1 ⟨rfl, hb1⟩))
  go_ret
  rename_i wA hA
  refine ⟨ret_str ?_, hA.trans (hb1.mono hA.size)⟩
  rw [wbe4 n.toNat, show (n / 65536).toNat = n.toNat / 65536 by omega, show (n % 65536).toNat = n.toNat % 65536 by omega]

theorem or_low (a b : Nat) (h : b < 256) : (a * 256 ||| b) = a * 256 + b := by
  have := Nat.two_pow_add_eq_or_of_lt (i := 8) (b := b) (by simpa using h) a
  rw [Nat.mul_comm a 256]
  exact this.symm
theorem u32_next (N b : Nat) (hN : N < 16777216) (hb : b < 256) : bits BinOp.or IntKind.u32 ((N : Int) * 256) (b : Int) = ((256 * N + b : Nat) : Int) := by
  have h := u32_or_nat (N * 256) b (by omega) (by omega)
  rw [or_low N b hb] at h
  have e : ((N * 256 : Nat) : Int) = (N : Int) * 256 := by omega
  rw [e] at h
  rw [h, Nat.mul_comm N 256]

set_option maxHeartbeats 400000 in
theorem wnumber_any (s : ByteArray) (w : World) (hs : s.size ≤ 4) :
    Calls Try.prog 110 #[.string s] w fun e w' => e = .returned (.int .u32 (numOf s.data.toList : Nat)) ∧ w' = w := by
  go_enter Try.func110, Try.ntmps110
  go_wp2_with fail
  go_loop [3, 4] (fun m i => ∃ k : Nat, k ≤ s.size ∧ i = .int .i64 k ∧ m = .int .u32 (numOf (s.data.toList.take k) : Nat)) (fun _ i => s.size - (intOf i).toNat)
  case atStart => exact ⟨0, by omega, rfl, rfl⟩
  case round =>
    obtain ⟨k, hk, rfl, rfl⟩ := hrel
    have hN := numOf_lt (s.data.toList.take k)
    have hl : (s.data.toList.take k).length ≤ k := List.length_take_le _ _
    have hp : (256 : Nat) ^ (s.data.toList.take k).length ≤ 256 ^ k := Nat.pow_le_pow_right (by decide) hl
    by_cases hlt : k < s.size
    · have hq : (256 : Nat) ^ k ≤ 256 ^ 3 := Nat.pow_le_pow_right (by decide) (by omega)
      have hq2 : (256 : Nat) ^ 3 = 16777216 := by decide
      have hN2 : numOf (s.data.toList.take k) < 16777216 := by omega
      have hb := s[k].toNat_lt
      have hsn := hide (numOf_snoc (s.data.toList.take k) s[k])
      have hts := hide (take_snoc s k hlt)
      clear hN hl hp hq hq2
      generalize numOf (s.data.toList.take k) = N at *
      have hnx := u32_next N s[k].toNat hN2 hb
      go_wp2
      go_round
      case rel => exact ⟨k + 1, by omega, by go_num, by rw [unhide hts, unhide hsn]; go_num⟩
      case measure => simp [intOf]; omega
    · have e : k = s.size := by omega
      subst e
      clear hN hl hp
      go_wp2
      go_ret
      exact ⟨ret_int (by rw [List.take_of_length_le (by simp)]), rfl⟩

end Go.Proofs.Ytgpojbgjfibblaa.texts
