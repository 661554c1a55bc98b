/-
  The walks of the program's ReadFields and ReadHeader (package wire).
  Conditions stand in each theorem.
-/
import Derived.Test.YtgpojbgjfibblabGreatJoinSendModel
namespace Go.Proofs.YtgpojbgjfibblabGreat.texts
open Go.RowKit
set_option linter.unusedVariables false
attribute [local go_sem ↓] Go.wp_at_zero Go.wp_at_succ
attribute [local go_sem] bs_size be_length bs_append List.length_append bs_extract bs_list

/-- a packet without a body -/
def bodyless (p : Pk) : Pk := { p with body := [] }

theorem cut_cut (l : List UInt8) (n m a b : Nat) (h : m + b ≤ n) : (((l.take n).drop m).take b).drop a = (l.take (m + b)).drop (m + a) := by
  rw [List.take_drop, List.take_take, List.drop_drop, Nat.min_eq_left h]
theorem cut_cut0 (l : List UInt8) (n m b : Nat) (h : m + b ≤ n) : ((l.take n).drop m).take b = (l.take (m + b)).drop m := by
  rw [List.take_drop, List.take_take, Nat.min_eq_left h]
theorem take_take' (l : List UInt8) (n m : Nat) (h : m ≤ n) : (l.take n).take m = l.take m := by
  rw [List.take_take, Nat.min_eq_left h]
theorem one_cut (l : List UInt8) (k : Nat) (h : k < l.length) : (l.take (k + 1)).drop k = [l[k]] := by
  rw [List.take_succ_eq_append_getElem h, List.drop_append_of_le_length (by simp; omega), List.drop_of_length_le (by simp; omega)]
  rfl
theorem num_one (b : UInt8) : numOf [b] = b.toNat := by simp [numOf]

/-- the fields behind the route that a text tells -/
def fieldsP (l : List UInt8) (f : Nat) : Pk :=
  { src := 0, dst := 0, port := 0, seq := numOf (l.take 2), time := numOf ((l.take 6).drop 2), id := numOf ((l.take 8).drop 6), flags := f, body := [] }

set_option maxHeartbeats 2000000 in
set_option maxRecDepth 100000 in
theorem wreadFields_any (l : List UInt8) (w : World) (h : 9 ≤ l.length) (hm : l.length ≤ 9223372036854775807) :
    Calls Tryz.prog 138 #[.string (bs l)] w fun e w' => e = .returned (.agg (fieldsP l (l[8]'(by omega)).toNat).cells) ∧ Below w.heap.size w w' := by
  have h8 : 8 < l.length := by omega
  have hlt : ((l[8].toNat : Nat) : Int) < 256 := by have := l[8].toNat_lt; omega
  have hb : ((bs l)[8]'(by rw [bs_size]; exact h8)).toNat = l[8].toNat := rfl
  have hs8 : 8 < (bs l).size := by rw [bs_size]; omega
  have e4 : IntKind.u16.wrap ((numOf (l.take 2) : Nat) : Int) = (numOf (l.take 2) : Nat) := wrap16 (numOf_lt' 2 (by simp; omega))
  have e6 : IntKind.u16.wrap ((numOf ((l.take 8).drop 6) : Nat) : Int) = (numOf ((l.take 8).drop 6) : Nat) := wrap16 (numOf_lt' 2 (by simp; omega))
  have g1 : (2 : Int) ≤ (l.length : Int) := by omega
  have g2 : (6 : Int) ≤ (l.length : Int) := by omega
  have g3 : (8 : Int) ≤ (l.length : Int) := by omega
  generalize l[8].toNat = F at *
  go_enter Tryz.func138, Tryz.ntmps138
  go_wp2_with ((go_at_call 144; refine (wnumber_any _ _ (by rw [bs_size]; simp; omega)).mono ?_; rintro e w' ⟨rfl, rfl⟩))
  exact bodyPost_ret (v := .agg (fieldsP l F).cells) (by simp [results, Tryz.results138, go_sem, fieldsP, Pk.cells, bs]) rfl ⟨rfl, ((Below.refl _ _).alloc (Nat.le_refl _) _).alloc (by simp) _⟩

/-- the header that a text tells, cut by cut -/
def headP (l : List UInt8) (f : Nat) : Pk :=
  { src := numOf (l.take 4), dst := numOf ((l.take 8).drop 4), port := numOf ((l.take 10).drop 8), seq := numOf ((l.take 12).drop 10), time := numOf ((l.take 16).drop 12), id := numOf ((l.take 18).drop 16), flags := f, body := [] }
theorem headP_eq (l : List UInt8) (h : 18 < l.length) : headP l l[18].toNat = bodyless (seemP l) := by
  unfold headP bodyless seemP withP
  rw [cut_cut0 l 19 10 2 (by decide), cut_cut l 19 10 2 6 (by decide), cut_cut l 19 10 6 8 (by decide), cut_cut l 19 10 8 9 (by decide), take_take' l 10 4 (by decide), take_take' l 10 8 (by decide), take_take' l 10 10 (by decide), one_cut l 18 h, num_one]
theorem fields_cut (l : List UInt8) (f : Nat) : fieldsP (l.drop 10) f = { headP l f with src := 0, dst := 0, port := 0 } := by
  unfold fieldsP headP
  simp only [List.take_drop, List.drop_drop]

set_option maxHeartbeats 2000000 in
set_option maxRecDepth 100000 in
theorem wreadHeader_any (l : List UInt8) (w : World) (h : 19 ≤ l.length) (hm : l.length ≤ 9223372036854775807) :
    Calls Tryz.prog 136 #[.string (bs l)] w fun e w' => e = .returned (.agg (bodyless (seemP l)).cells) ∧ Below w.heap.size w w' := by
  have h18 : 18 < l.length := by omega
  have e3 : IntKind.u16.wrap ((numOf ((l.take 10).drop 8) : Nat) : Int) = (numOf ((l.take 10).drop 8) : Nat) := wrap16 (numOf_lt' 2 (by simp; omega))
  have g1 : (8 : Int) ≤ (l.length : Int) := by omega
  have g2 : (10 : Int) ≤ (l.length : Int) := by omega
  have g6 : (4 : Int) ≤ (l.length : Int) := by omega
  have hd : l.take l.length = l := List.take_length
  rw [← headP_eq l h18]
  have HF := hide (show ∀ w : World, Calls Tryz.prog 138 #[.string (bs (l.drop 10))] w fun e w' => e = .returned (.agg #[.int .u32 0, .int .u32 0, .int .u16 0, .int .u16 (numOf ((l.take 12).drop 10) : Nat), .int .u32 (numOf ((l.take 16).drop 12) : Nat), .int .u16 (numOf ((l.take 18).drop 16) : Nat), .int .u8 (l[18].toNat : Nat), .string (bs [])]) ∧ Below w.heap.size w w' by
    intro w
    have K := wreadFields_any (l.drop 10) w (by simp; omega) (by simp; omega)
    rw [fields_cut] at K
    simpa [headP, Pk.cells] using K)
  generalize l[18].toNat = F at *
  go_enter Tryz.func136, Tryz.ntmps136
  go_wp2_with (first | (go_at_call 138; refine (unhide HF _).mono ?_; rintro e w3 ⟨rfl, hbel3⟩; have G3 := block_keep (heap_alloc_new w _) hbel3; have B3 := hide (grew_call ((Below.refl _ _).alloc (Nat.le_refl _) _) hbel3); have hz3 := block_lt G3; obtain ⟨e0, e1, e2, e3', e4, e5, e6, e7⟩ := cells8 (p := zeroP) G3; obtain ⟨f0, f1, f2, f3, f4, f5, f6, f7⟩ := free8 G3; have HG3 := hide G3; clear G3 hbel3) | (go_at_call 144; refine (wnumber_any _ _ (by rw [bs_size]; simp; omega)).mono ?_; rintro e w' ⟨rfl, rfl⟩))
  have hB := read_put ⟨numOf (l.take 4), numOf ((l.take 8).drop 4), numOf ((l.take 10).drop 8), numOf ((l.take 12).drop 10), numOf ((l.take 16).drop 12), numOf ((l.take 18).drop 16), F, []⟩ w.heap.size (Nat.le_refl _) (unhide B3) (unhide HG3)
  simp only at hB
  obtain ⟨r0, r1, r2, r3, r4, r5, r6, r7⟩ := cells8 (block_alloc hB.1 (.cells #[.int .u32 (numOf (l.take 4) : Nat), .int .u32 (numOf ((l.take 8).drop 4) : Nat), .int .u16 (numOf ((l.take 10).drop 8) : Nat), .int .u16 (numOf ((l.take 12).drop 10) : Nat), .int .u32 (numOf ((l.take 16).drop 12) : Nat), .int .u16 (numOf ((l.take 18).drop 16) : Nat), .int .u8 (F : Nat), .string (bs [])] 43))
  simp only at r0 r1 r2 r3 r4 r5 r6 r7
  clear e0 e1 e2 e3' e4 e5 e6 e7 f0 f1 f2 f3 f4 f5 f6 f7
  refine bodyPost_ret (v := .agg (headP l F).cells) ?_ rfl ⟨rfl, grew_alloc hB.2 _⟩
  simp [results, Tryz.results136, go_sem, Pk.cells, headP, r0, r1, r2, r3, r4, r5, r6, r7]

end Go.Proofs.YtgpojbgjfibblabGreat.texts
