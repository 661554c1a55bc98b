/-
  The walk of the document's Write (package gistref). The walks of the document's RouteOf, With and Read (package gistref). Small laws on blocks of memory: eight cells written one by one; what stays below a bound. The walk of the document's Read (package gistref) where the text has the length that it tells. The walks of the program's numbers as bytes (package wire): Text8, Text16, Text32, Number.
  Conditions stand in each theorem.
-/
import Derived.Test.YtgpojbgjfibblaaGreatPart2
import Derived.Test.YtgpojbgjfibblaaGreatPart1
import Derived.WalkKit
import Derived.WalkSpells
import Derived.WalkLawsBesides
import Derived.Deep.DeepCutAuto
namespace Go.Proofs.YtgpojbgjfibblaaGreat.texts
open Go.RowKit
set_option linter.unusedVariables false
attribute [local go_sem ↓] Go.wp_at_zero Go.wp_at_succ
attribute [local go_sem] bs_size be_length bs_append List.length_append headL_length restL_length hdrL_length

/-- a packet's text, ahead of the sum; the text -/
def bareL (p : Pk) : List UInt8 := hdrL p ++ (be p.body.length 1 ++ p.body)
def textL (p : Pk) : List UInt8 := bareL p ++ be (plain.sumOf (bareL p)) 2
theorem bareL_length (p : Pk) : (bareL p).length = 20 + p.body.length := by simp [bareL, hdrL_length, be_length]; omega

theorem ret_si {a b : ByteArray} {c d : Int} (h : a = b) (g : c = d) : Ending.returned (.tuple #[.string a, .int .i64 c]) = .returned (.tuple #[.string b, .int .i64 d]) := by rw [h, g]

/-- what Write answers -/
def writeR (p : Pk) : List UInt8 := if p.body.length ≤ 100 then textL p else []
def writeE (p : Pk) : Int := if p.body.length ≤ 100 then 0 else 2
end Go.Proofs.YtgpojbgjfibblaaGreat.texts

namespace Go.Proofs.YtgpojbgjfibblaaGreat.texts
open Go.RowKit
set_option linter.unusedVariables false

theorem bs_extract (l : List UInt8) (a b : Nat) : (bs l).extract a b = bs ((l.take b).drop a) := by
  apply ByteArray.ext
  rw [ByteArray.data_extract]
  apply Array.ext'
  simp [bs, List.extract_eq_take_drop, List.drop_take]

theorem wrap32 {n : Nat} (h : n < 4294967296) : IntKind.u32.wrap (n : Int) = n := by rw [IntKind.wrap_u32']; omega
theorem numOf_lt' {l : List UInt8} (k : Nat) (h : l.length ≤ k) : numOf l < 256 ^ k := Nat.lt_of_lt_of_le (numOf_lt l) (Nat.pow_le_pow_right (by decide) h)

attribute [local go_sem ↓] Go.wp_at_zero Go.wp_at_succ
attribute [local go_sem] bs_size be_length bs_append List.length_append headL_length restL_length hdrL_length bs_extract bs_list

set_option maxHeartbeats 1000000 in
theorem routeOf_any (l : List UInt8) (w : World) (hl : l.length = 10) :
    Calls Tryz.prog 95 #[.string (bs l)] w fun e w' => e = .returned (.agg #[.int .u32 (numOf (l.take 4) : Nat), .int .u32 (numOf ((l.take 8).drop 4) : Nat), .int .u16 (numOf ((l.take 10).drop 8) : Nat)]) ∧ Below w.heap.size w w' := by
  have e1 : IntKind.u32.wrap ((numOf (l.take 4) : Nat) : Int) = (numOf (l.take 4) : Nat) := wrap32 (numOf_lt' 4 (by simp; omega))
  have e2 : IntKind.u32.wrap ((numOf ((l.take 8).drop 4) : Nat) : Int) = (numOf ((l.take 8).drop 4) : Nat) := wrap32 (numOf_lt' 4 (by simp; omega))
  have e3 : IntKind.u16.wrap ((numOf ((l.take 10).drop 8) : Nat) : Int) = (numOf ((l.take 10).drop 8) : Nat) := wrap16 (numOf_lt' 2 (by simp; omega))
  go_enter Tryz.func95, Tryz.ntmps95
  go_wp2_with fail
  go_region_held3 (fun _ => True) (trivial)
    ((go_at_call 97; refine (number_any _ _ (by rw [bs_size]; simp; omega)).mono ?_; rintro e w' ⟨rfl, rfl⟩))
  all_goals go_wp2
  all_goals exact bodyPost_ret (v := .agg #[.int .u32 (numOf (l.take 4) : Nat), .int .u32 (numOf ((l.take 8).drop 4) : Nat), .int .u16 (numOf ((l.take 10).drop 8) : Nat)]) (by simp [results, Tryz.results95, go_sem]) rfl ⟨rfl, ((Below.refl _ _).alloc (Nat.le_refl _) _).drew⟩

/-- a packet whose numbers stand in nine bytes -/
def withP (a b c : Nat) (l body : List UInt8) : Pk :=
  { src := a, dst := b, port := c, seq := numOf (l.take 2), time := numOf ((l.take 6).drop 2), id := numOf ((l.take 8).drop 6), flags := numOf ((l.take 9).drop 8), body := body }

set_option maxHeartbeats 1000000 in
theorem with_any (a b c : Nat) (l body : List UInt8) (w : World) (hl : l.length = 9) :
    Calls Tryz.prog 96 #[.agg #[.int .u32 a, .int .u32 b, .int .u16 c], .string (bs l), .string (bs body)] w fun e w' => e = .returned (.agg (withP a b c l body).flat) ∧ Below w.heap.size w w' := by
  unfold withP Pk.flat
  go_enter Tryz.func96, Tryz.ntmps96
  go_wp2_with fail
  go_region_held3 (fun w' => w'.cell? ⟨w.heap.size, 0, none⟩ = some (.int .u32 a) ∧ w'.cell? ⟨w.heap.size, 1, none⟩ = some (.int .u32 b) ∧ w'.cell? ⟨w.heap.size, 2, none⟩ = some (.int .u16 c)) (first | (go_keep; done) | (simp; done))
    ((go_at_call 97; refine (number_any _ _ (by rw [bs_size]; simp; omega)).mono ?_; rintro e w' ⟨rfl, rfl⟩))
  all_goals go_wp2
  all_goals exact bodyPost_ret (v := .agg (withP a b c l body).flat) (by simp [results, Tryz.results96, go_sem, withP, Pk.flat]) rfl ⟨rfl, (((Below.refl _ _).alloc (Nat.le_refl _) _).alloc (by simp) _).drew⟩

/-- a packet of noughts -/
def zeroP : Pk := { src := 0, dst := 0, port := 0, seq := 0, time := 0, id := 0, flags := 0, body := [] }
/-- byte 19; the packet that a text seems to tell; what Read answers -/
def at19 (l : List UInt8) : Nat := (l[19]?.getD 0).toNat
def seemP (l : List UInt8) : Pk :=
  withP (numOf ((l.take 10).take 4)) (numOf (((l.take 10).take 8).drop 4)) (numOf (((l.take 10).take 10).drop 8)) ((l.take 19).drop 10) ((l.take (20 + at19 l)).drop 20)
def readE (l : List UInt8) : Int :=
  if l.length < 22 then 4 else if ¬ l.length = 22 + at19 l then 4 else if 100 < at19 l then 2 else if textL (seemP l) = l then 0 else 5
def readR (l : List UInt8) : Pk := if readE l = 0 then seemP l else zeroP

theorem seem_ok (l : List UInt8) : (seemP l).ok := by
  unfold seemP withP
  constructor
  · exact numOf_lt' 4 (by simp; omega)
  · exact numOf_lt' 4 (by simp; omega)
  · exact numOf_lt' 2 (by simp; omega)
  · exact numOf_lt' 2 (by simp; omega)
  · exact numOf_lt' 4 (by simp; omega)
  · exact numOf_lt' 2 (by simp; omega)
  · exact numOf_lt' 1 (by simp; omega)

theorem readR_bad {l : List UInt8} (h : readE l ≠ 0) : readR l = zeroP := by unfold readR; rw [if_neg h]

theorem at_byte (l : List UInt8) (h : 19 < l.length) : ((bs l)[19]'(by rw [bs_size]; exact h)).toNat = at19 l := by
  unfold at19
  rw [List.getElem?_eq_getElem h]
  rfl

end Go.Proofs.YtgpojbgjfibblaaGreat.texts

namespace Go.Proofs.YtgpojbgjfibblaaGreat.texts
open Go.RowKit
set_option linter.unusedVariables false

theorem set8 (z : Array Value) (hz : z.size = 8) (a b c d e f i j : Value) :
    (((((((z.setIfInBounds 0 a).setIfInBounds 1 b).setIfInBounds 2 c).setIfInBounds 3 d).setIfInBounds 4 e).setIfInBounds 5 f).setIfInBounds 6 i).setIfInBounds 7 j = #[a, b, c, d, e, f, i, j] := by
  obtain ⟨l⟩ := z
  obtain ⟨x0, x1, x2, x3, x4, x5, x6, x7, rfl⟩ : ∃ x0 x1 x2 x3 x4 x5 x6 x7, l = [x0, x1, x2, x3, x4, x5, x6, x7] := by
    match l, hz with
    | [x0, x1, x2, x3, x4, x5, x6, x7], _ => exact ⟨x0, x1, x2, x3, x4, x5, x6, x7, rfl⟩
  simp only [List.setIfInBounds_toArray, List.set_cons_zero, List.set_cons_succ]

/-- eight cells of a block are written -/
theorem fill8 (w : World) (g : Nat) (z : Array Value) (t : TypeId) (h : w.heap[g]? = some (.cells z t (0, 0))) (hz : z.size = 8) (a b c d e f i j : Value) :
    ((((((((w.setCell ⟨g, 0, none⟩ a).setCell ⟨g, 1, none⟩ b).setCell ⟨g, 2, none⟩ c).setCell ⟨g, 3, none⟩ d).setCell ⟨g, 4, none⟩ e).setCell ⟨g, 5, none⟩ f).setCell ⟨g, 6, none⟩ i).setCell ⟨g, 7, none⟩ j).heap[g]? = some (.cells #[a, b, c, d, e, f, i, j] t (0, 0)) := by
  have h0 := heap_setCell_same w g 0 z t a h
  have h1 := heap_setCell_same _ g 1 _ t b h0
  have h2 := heap_setCell_same _ g 2 _ t c h1
  have h3 := heap_setCell_same _ g 3 _ t d h2
  have h4 := heap_setCell_same _ g 4 _ t e h3
  have h5 := heap_setCell_same _ g 5 _ t f h4
  have h6 := heap_setCell_same _ g 6 _ t i h5
  have h7 := heap_setCell_same _ g 7 _ t j h6
  rw [h7, set8 z hz]

/-- a block that is known whole: its cells, and that none is frozen -/
theorem block_cell {w : World} {g : Nat} {z : Array Value} {t : TypeId} (h : w.heap[g]? = some (.cells z t (0, 0))) (i : Nat) : w.cell? ⟨g, i, none⟩ = z[i]? := cell_of_row w g i z t (0, 0) h
theorem block_free {w : World} {g : Nat} {z : Array Value} {t : TypeId} (h : w.heap[g]? = some (.cells z t (0, 0))) (i : Nat) : w.frozen? ⟨g, i, none⟩ = false := frozen_of_row w g i z t h
theorem block_lt {w : World} {g : Nat} {o : Obj} (h : w.heap[g]? = some o) : g < w.heap.size := (Array.getElem?_eq_some_iff.1 h).1
theorem block_keep {w w2 : World} {g : Nat} {o : Obj} (h : w.heap[g]? = some o) (hb : Below w.heap.size w w2) : w2.heap[g]? = some o := by rw [hb.block g (block_lt h)]; exact h
theorem block_alloc {w : World} {g : Nat} {o : Obj} (h : w.heap[g]? = some o) (o2 : Obj) : (w.alloc o2).heap[g]? = some o := by rw [Below.heap_alloc _ _ _ (block_lt h)]; exact h
theorem block_set {w : World} {g : Nat} {o : Obj} (h : w.heap[g]? = some o) {a : Addr} (ha : g ≠ a.block) (v : Value) : (w.setCell a v).heap[g]? = some o := by rw [Below.heap_setCell _ _ _ _ ha]; exact h

/-- the world has only grown: a call, a block more -/
theorem grew_call {w w1 w2 : World} (h : Below w.heap.size w w1) (hb : Below w1.heap.size w1 w2) : Below w.heap.size w w2 := h.trans (hb.mono h.size)
theorem grew_alloc {w w1 : World} (h : Below w.heap.size w w1) (o : Obj) : Below w.heap.size w (w1.alloc o) := h.alloc h.size o

end Go.Proofs.YtgpojbgjfibblaaGreat.texts

namespace Go.Proofs.YtgpojbgjfibblaaGreat.texts
open Go.RowKit
set_option linter.unusedVariables false
attribute [local go_sem ↓] Go.wp_at_zero Go.wp_at_succ
attribute [local go_sem] bs_size be_length bs_append List.length_append headL_length restL_length hdrL_length bs_extract bs_list bs_toList

theorem bcell {W w1 : World} (hb : Below W.heap.size W w1) : (∀ b o, b < W.heap.size → w1.cell? ⟨b, o, none⟩ = W.cell? ⟨b, o, none⟩) ∧ (∀ b o, b < W.heap.size → w1.frozen? ⟨b, o, none⟩ = W.frozen? ⟨b, o, none⟩) :=
  ⟨fun b o h => hb.cell (p := ⟨b, o, none⟩) h, fun b o h => hb.frozen (p := ⟨b, o, none⟩) h⟩

/-- the two packets of noughts with which Read begins lie untouched -/
structure Two (w w' : World) : Prop where
  one : w'.heap[w.heap.size]? = some (.cells zeroP.cells 41 (0, 0))
  two : w'.heap[w.heap.size + 1]? = some (.cells zeroP.cells 41 (0, 0))
  below : Below w.heap.size w w'
  size : w.heap.size + 1 < w'.heap.size
theorem two_start0 (w : World) : Two w ((w.alloc (.cells zeroP.cells 41)).alloc (.cells zeroP.cells 41)) := by
  refine ⟨block_alloc (heap_alloc_new w _) _, ?_, ((Below.refl _ _).alloc (Nat.le_refl _) _).alloc (by simp) _, by simp⟩
  have h := heap_alloc_new (w.alloc (.cells zeroP.cells 41)) (.cells zeroP.cells 41)
  simpa using h
theorem two_drew {w w1 : World} (h : Two w w1) : Two w w1.drew := ⟨h.one, h.two, h.below.drew, h.size⟩
theorem two_start (w : World) : Two w ((w.alloc (.cells zeroP.cells 41)).alloc (.cells zeroP.cells 41)).drew := two_drew (two_start0 w)
theorem third_block (w : World) (o1 o2 o3 : Obj) : ((((w.alloc o1).alloc o2).alloc o3).drew).heap[w.heap.size + 1 + 1]? = some o3 := by
  have h := heap_alloc_new ((w.alloc o1).alloc o2) o3
  rw [World.size_alloc, World.size_alloc] at h
  exact h
theorem two_call {w w1 w2 : World} (h : Two w w1) (hb : Below w1.heap.size w1 w2) : Two w w2 :=
  ⟨block_keep h.one hb, block_keep h.two hb, h.below.trans (hb.mono (by have := h.size; omega)), Nat.lt_of_lt_of_le h.size hb.size⟩
theorem two_alloc {w w1 : World} (h : Two w w1) (o : Obj) : Two w (w1.alloc o) :=
  ⟨block_alloc h.one _, block_alloc h.two _, h.below.alloc (by have := h.size; omega) _, by have := h.size; simp; omega⟩
theorem two_swap {w w1 : World} {o : Obj} (h : Two w (w1.alloc o)) (hz : w.heap.size + 1 < w1.heap.size) (o2 : Obj) : Two w (w1.alloc o2) := by
  refine two_alloc ⟨?_, ?_, ?_, hz⟩ o2
  · rw [← Below.heap_alloc w1 o _ (by omega)]; exact h.one
  · rw [← Below.heap_alloc w1 o _ hz]; exact h.two
  · exact ⟨h.below.os, h.below.tape, h.below.output, by omega, fun k hk => by rw [← Below.heap_alloc w1 o _ (by omega)]; exact h.below.block k hk⟩
theorem two_set {w w1 : World} (h : Two w w1) {a : Addr} (ha : w.heap.size + 1 < a.block) (v : Value) : Two w (w1.setCell a v) :=
  ⟨block_set h.one (by omega) _, block_set h.two (by omega) _, h.below.setCell (by omega) _, by simpa using h.size⟩

theorem flat_eq (l : List UInt8) : (seemP l).flat = #[.int .u32 (numOf ((l.take 10).take 4) : Nat), .int .u32 (numOf (((l.take 10).take 8).drop 4) : Nat), .int .u16 (numOf (((l.take 10).take 10).drop 8) : Nat),
    .int .i64 (numOf (((l.take 19).drop 10).take 2) : Nat), .int .i64 (numOf ((((l.take 19).drop 10).take 6).drop 2) : Nat), .int .i64 (numOf ((((l.take 19).drop 10).take 8).drop 6) : Nat), .int .i64 (numOf ((((l.take 19).drop 10).take 9).drop 8) : Nat),
    .string (bs ((l.take (20 + (at19 l : Int)).toNat).drop 20))] := by
  rw [show (20 + (at19 l : Int)).toNat = 20 + at19 l by omega]
  rfl

theorem flat8 {w : World} {g : Nat} {p : Pk} {t : TypeId} (h : w.heap[g]? = some (.cells p.flat t (0, 0))) :
    w.cell? ⟨g, 0, none⟩ = some (.int .u32 p.src) ∧ w.cell? ⟨g, 1, none⟩ = some (.int .u32 p.dst) ∧ w.cell? ⟨g, 2, none⟩ = some (.int .u16 p.port) ∧ w.cell? ⟨g, 3, none⟩ = some (.int .i64 p.seq) ∧
    w.cell? ⟨g, 4, none⟩ = some (.int .i64 p.time) ∧ w.cell? ⟨g, 5, none⟩ = some (.int .i64 p.id) ∧ w.cell? ⟨g, 6, none⟩ = some (.int .i64 p.flags) ∧ w.cell? ⟨g, 7, none⟩ = some (.string (bs p.body)) :=
  ⟨block_cell h 0, block_cell h 1, block_cell h 2, block_cell h 3, block_cell h 4, block_cell h 5, block_cell h 6, block_cell h 7⟩
theorem cells8 {w : World} {g : Nat} {p : Pk} {t : TypeId} (h : w.heap[g]? = some (.cells p.cells t (0, 0))) :
    w.cell? ⟨g, 0, none⟩ = some (.int .u32 p.src) ∧ w.cell? ⟨g, 1, none⟩ = some (.int .u32 p.dst) ∧ w.cell? ⟨g, 2, none⟩ = some (.int .u16 p.port) ∧ w.cell? ⟨g, 3, none⟩ = some (.int .u16 p.seq) ∧
    w.cell? ⟨g, 4, none⟩ = some (.int .u32 p.time) ∧ w.cell? ⟨g, 5, none⟩ = some (.int .u16 p.id) ∧ w.cell? ⟨g, 6, none⟩ = some (.int .u8 p.flags) ∧ w.cell? ⟨g, 7, none⟩ = some (.string (bs p.body)) :=
  ⟨block_cell h 0, block_cell h 1, block_cell h 2, block_cell h 3, block_cell h 4, block_cell h 5, block_cell h 6, block_cell h 7⟩
theorem free8 {w : World} {g : Nat} {z : Array Value} {t : TypeId} (h : w.heap[g]? = some (.cells z t (0, 0))) :
    w.frozen? ⟨g, 0, none⟩ = false ∧ w.frozen? ⟨g, 1, none⟩ = false ∧ w.frozen? ⟨g, 2, none⟩ = false ∧ w.frozen? ⟨g, 3, none⟩ = false ∧ w.frozen? ⟨g, 4, none⟩ = false ∧ w.frozen? ⟨g, 5, none⟩ = false ∧ w.frozen? ⟨g, 6, none⟩ = false ∧ w.frozen? ⟨g, 7, none⟩ = false :=
  ⟨block_free h 0, block_free h 1, block_free h 2, block_free h 3, block_free h 4, block_free h 5, block_free h 6, block_free h 7⟩

theorem read_put (p : Pk) (g : Nat) {B : Nat} {w w2 : World} {z : Array Value} {t : TypeId} (hg : B ≤ g) (hb : Below B w w2) (h : w2.heap[g]? = some (.cells z t (0, 0))) (hz : z.size = 8 := by rfl) :
    ((((((((w2.setCell ⟨g, 0, none⟩ (.int .u32 p.src)).setCell ⟨g, 1, none⟩ (.int .u32 p.dst)).setCell ⟨g, 2, none⟩ (.int .u16 p.port)).setCell ⟨g, 3, none⟩ (.int .u16 p.seq)).setCell ⟨g, 4, none⟩ (.int .u32 p.time)).setCell ⟨g, 5, none⟩ (.int .u16 p.id)).setCell ⟨g, 6, none⟩ (.int .u8 p.flags)).setCell ⟨g, 7, none⟩ (.string (bs p.body))).heap[g]? = some (.cells p.cells t (0, 0)) ∧
    Below B w ((((((((w2.setCell ⟨g, 0, none⟩ (.int .u32 p.src)).setCell ⟨g, 1, none⟩ (.int .u32 p.dst)).setCell ⟨g, 2, none⟩ (.int .u16 p.port)).setCell ⟨g, 3, none⟩ (.int .u16 p.seq)).setCell ⟨g, 4, none⟩ (.int .u32 p.time)).setCell ⟨g, 5, none⟩ (.int .u16 p.id)).setCell ⟨g, 6, none⟩ (.int .u8 p.flags)).setCell ⟨g, 7, none⟩ (.string (bs p.body))) :=
  ⟨fill8 w2 g z t h hz _ _ _ _ _ _ _ _, (((((((hb.setCell hg _).setCell hg _).setCell hg _).setCell hg _).setCell hg _).setCell hg _).setCell hg _).setCell hg _⟩

theorem read_fin (l : List UInt8) (h : 22 ≤ l.length) (hne : l.length = 22 + at19 l) (hl : at19 l ≤ 100) :
    (writeR (seemP l) = l → readE l = 0 ∧ readR l = seemP l) ∧ (writeR (seemP l) ≠ l → readE l = 5 ∧ readR l = zeroP) := by
  have hbody : (seemP l).body.length ≤ 100 := by simp [seemP, withP]; omega
  have e : writeR (seemP l) = textL (seemP l) := by unfold writeR; rw [if_pos hbody]
  have e2 : readE l = if textL (seemP l) = l then 0 else 5 := by
    unfold readE
    rw [if_neg (by omega), if_neg (by omega), if_neg (by omega)]
  rw [e]
  unfold readR
  rw [e2]
  constructor
  · intro h1; rw [if_pos h1]; exact ⟨rfl, if_pos rfl⟩
  · intro h1; rw [if_neg h1]; exact ⟨rfl, if_neg (by decide)⟩

end Go.Proofs.YtgpojbgjfibblaaGreat.texts

namespace Go.Proofs.YtgpojbgjfibblaaGreat.texts
open Go.RowKit
set_option linter.unusedVariables false
attribute [local go_sem ↓] Go.wp_at_zero Go.wp_at_succ
attribute [local go_sem] bs_size be_length bs_append List.length_append

theorem wbe1 (n : Nat) (h : n < 256) : be n 1 = [UInt8.ofNat n] := by
  simp [be, Nat.mod_eq_of_lt h]
theorem wbe2 (n : Nat) : be n 2 = [UInt8.ofNat (n / 256 % 256), UInt8.ofNat (n % 256)] := by
  simp [be]
theorem wbe4 (n : Nat) : be n 4 = be (n / 65536) 2 ++ be (n % 65536) 2 := by
  have e1 : n / 65536 % 256 = n / 256 / 256 % 256 := by omega
  have e2 : n % 65536 / 256 % 256 = n / 256 % 256 := by omega
  have e3 : n % 65536 % 256 = n % 256 := by omega
  have e4 : n / 65536 / 256 % 256 = n / 256 / 256 / 256 % 256 := by omega
  rw [wbe2, wbe2, e1, e2, e3, e4]
  simp [be]

/-- 'string([]byte{x, y})': the text of two bytes -/
theorem two_bytes (w : World) (x y : Int) (m n : Nat) (h0 : x = m) (h1 : m < 256) (g0 : y = n) (g1 : n < 256) :
    (convert 179 9 (.slice (some ⟨w.heap.size, 0, none⟩) 2 2)).run Tryz.prog (w.alloc (.cells #[.int .u8 x, .int .u8 y] 5)) = .ok (.string (bs [UInt8.ofNat m, UInt8.ofNat n])) (w.alloc (.cells #[.int .u8 x, .int .u8 y] 5)) := by
  have h := run_convert_bytes_back (P := Tryz.prog) (w.alloc (.cells #[.int .u8 x, .int .u8 y] 5)) 179 9 5 ⟨w.heap.size, 0, none⟩ 2 [UInt8.ofNat m, UInt8.ofNat n] Tryz.underlying179 Tryz.underlying5 Tryz.underlying9 (fun j hj => by
    subst h0 g0
    match j, hj with
    | 0, _ => simp [Addr.add]; omega
    | 1, _ => simp [Addr.add]; omega)
  exact h

set_option maxHeartbeats 400000 in
theorem text8_any (n : Int) (w : World) (h0 : 0 ≤ n) (h1 : n < 256) :
    Calls Tryz.prog 107 #[.int .u8 n] w fun e w' => e = .returned (.string (bs (be n.toNat 1))) ∧ Below w.heap.size w w' := by
  obtain ⟨n, rfl⟩ := Int.eq_ofNat_of_zero_le h0
  have hcv := one_byte w (n : Int) n rfl (by omega)
  go_enter Tryz.func107, Tryz.ntmps107
  go_wp2
  go_ret
  exact ⟨ret_str (by rw [Int.toNat_natCast, wbe1 n (by omega)]), (Below.refl _ _).alloc (Nat.le_refl _) _⟩

set_option maxHeartbeats 400000 in
theorem text16_any (n : Int) (w : World) (h0 : 0 ≤ n) (h1 : n < 65536) :
    Calls Tryz.prog 124 #[.int .u16 n] w fun e w' => e = .returned (.string (bs (be n.toNat 2))) ∧ Below w.heap.size w w' := by
  obtain ⟨n, rfl⟩ := Int.eq_ofNat_of_zero_le h0
  have hcv := two_bytes w ((n : Int) / 256) ((n : Int) % 256) (n / 256) (n % 256) (by omega) (by omega) (by omega) (by omega)
  go_enter Tryz.func124, Tryz.ntmps124
  go_wp2
  go_ret
  exact ⟨ret_str (by rw [Int.toNat_natCast, wbe2, Nat.mod_eq_of_lt (show n / 256 < 256 by omega)]), (Below.refl _ _).alloc (Nat.le_refl _) _⟩

set_option maxHeartbeats 400000 in
theorem text32_any (n : Int) (w : World) (h0 : 0 ≤ n) (h1 : n < 4294967296) :
    Calls Tryz.prog 135 #[.int .u32 n] w fun e w' => e = .returned (.string (bs (be n.toNat 4))) ∧ Below w.heap.size w w' := by
  have hw : IntKind.u16.wrap n = n % 65536 := IntKind.wrap_u16 n
  go_enter Tryz.func135, Tryz.ntmps135
  go_wp2_with (first | (go_at_call 124; refine (text16_any _ _ (by omega) (by omega)).mono ?_; rintro e w1 ⟨rfl, hb1⟩))
  go_ret
  rename_i wA hA
  refine ⟨ret_str ?_, hA.trans (hb1.mono hA.size)⟩
  rw [wbe4 n.toNat, show (n / 65536).toNat = n.toNat / 65536 by omega, show (n % 65536).toNat = n.toNat % 65536 by omega]

theorem or_low (a b : Nat) (h : b < 256) : (a * 256 ||| b) = a * 256 + b := by
  have := Nat.two_pow_add_eq_or_of_lt (i := 8) (b := b) (by simpa using h) a
  rw [Nat.mul_comm a 256]
  exact this.symm
theorem u32_next (N b : Nat) (hN : N < 16777216) (hb : b < 256) : bits BinOp.or IntKind.u32 ((N : Int) * 256) (b : Int) = ((256 * N + b : Nat) : Int) := by
  have h := u32_or_nat (N * 256) b (by omega) (by omega)
  rw [or_low N b hb] at h
  have e : ((N * 256 : Nat) : Int) = (N : Int) * 256 := by omega
  rw [e] at h
  rw [h, Nat.mul_comm N 256]

set_option maxHeartbeats 400000 in
theorem wnumber_any (s : ByteArray) (w : World) (hs : s.size ≤ 4) :
    Calls Tryz.prog 146 #[.string s] w fun e w' => e = .returned (.int .u32 (numOf s.data.toList : Nat)) ∧ w' = w := by
  go_enter Tryz.func146, Tryz.ntmps146
  go_wp2_with fail
  go_loop [3, 4] (fun m i => ∃ k : Nat, k ≤ s.size ∧ i = .int .i64 k ∧ m = .int .u32 (numOf (s.data.toList.take k) : Nat)) (fun _ i => s.size - (intOf i).toNat)
  case atStart => exact ⟨0, by omega, rfl, rfl⟩
  case round =>
    obtain ⟨k, hk, rfl, rfl⟩ := hrel
    have hN := numOf_lt (s.data.toList.take k)
    have hl : (s.data.toList.take k).length ≤ k := List.length_take_le _ _
    have hp : (256 : Nat) ^ (s.data.toList.take k).length ≤ 256 ^ k := Nat.pow_le_pow_right (by decide) hl
    by_cases hlt : k < s.size
    · have hq : (256 : Nat) ^ k ≤ 256 ^ 3 := Nat.pow_le_pow_right (by decide) (by omega)
      have hq2 : (256 : Nat) ^ 3 = 16777216 := by decide
      have hN2 : numOf (s.data.toList.take k) < 16777216 := by omega
      have hb := s[k].toNat_lt
      have hsn := hide (numOf_snoc (s.data.toList.take k) s[k])
      have hts := hide (take_snoc s k hlt)
      clear hN hl hp hq hq2
      generalize numOf (s.data.toList.take k) = N at *
      have hnx := u32_next N s[k].toNat hN2 hb
      go_wp2
      go_round
      case rel => exact ⟨k + 1, by omega, by go_num, by rw [unhide hts, unhide hsn]; go_num⟩
      case measure => simp [intOf]; omega
    · have e : k = s.size := by omega
      subst e
      clear hN hl hp
      go_wp2
      go_ret
      exact ⟨ret_int (by rw [List.take_of_length_le (by simp)]), rfl⟩

end Go.Proofs.YtgpojbgjfibblaaGreat.texts
