/-
  The walks of the program's Write and Read (packages packet and gist). A text whose last two bytes are the sum of what stands ahead is just the text of the packet that it seems to tell.
  Conditions stand in each theorem.
-/
import Derived.Test.YtgpojbgjfibblaaWireRead
import Derived.Test.YtgpojbgjfibblaaPart5
namespace Go.Proofs.Ytgpojbgjfibblaa.texts
open Go.RowKit
set_option linter.unusedVariables false
attribute [local go_sem ↓] Go.wp_at_zero Go.wp_at_succ
attribute [local go_sem] bs_size be_length bs_append List.length_append headL_length restL_length hdrL_length bs_extract bs_list bs_toList

set_option maxHeartbeats 1000000 in
set_option maxRecDepth 100000 in
theorem pwrite_long (p : Pk) (w : World) (h : 100 < p.body.length) (h' : p.body.length ≤ 9223372036854775807) :
    Calls Try.prog 55 #[.agg p.cells] w fun e w' => e = .returned (.tuple #[.string (bs []), .int .i64 2]) ∧ Below w.heap.size w w' := by
  unfold Pk.cells
  go_enter Try.func55, Try.ntmps55
  go_wp2_with fail
  go_ret2
  exact ⟨rfl, (Below.refl _ _).alloc (Nat.le_refl _) _⟩

set_option maxHeartbeats 1000000 in
set_option maxRecDepth 100000 in
theorem pwrite_good (p : Pk) (w : World) (hp : p.ok) (h : p.body.length ≤ 100) :
    Calls Try.prog 55 #[.agg p.cells] w fun e w' => e = .returned (.tuple #[.string (bs (textL p)), .int .i64 0]) ∧ Below w.heap.size w w' := by
  have Hp := hide hp
  have hw8 : IntKind.u8.wrap (p.body.length : Int) = p.body.length := wrap8 (by omega)
  unfold Pk.cells
  go_enter Try.func55, Try.ntmps55
  go_wp2_with fail
  have hno : ¬ 9223372036854775807 < 20 + p.body.length := by omega
  go_region_held3 (fun w' => w'.cell? ⟨w.heap.size, 0, none⟩ = some (.int .u32 p.src) ∧ w'.cell? ⟨w.heap.size, 1, none⟩ = some (.int .u32 p.dst) ∧ w'.cell? ⟨w.heap.size, 2, none⟩ = some (.int .u16 p.port) ∧ w'.cell? ⟨w.heap.size, 3, none⟩ = some (.int .u16 p.seq) ∧ w'.cell? ⟨w.heap.size, 4, none⟩ = some (.int .u32 p.time) ∧ w'.cell? ⟨w.heap.size, 5, none⟩ = some (.int .u16 p.id) ∧ w'.cell? ⟨w.heap.size, 6, none⟩ = some (.int .u8 p.flags) ∧ w'.cell? ⟨w.heap.size, 7, none⟩ = some (.string (bs p.body)) ∧ Below w.heap.size w w' ∧ w.heap.size ≤ w'.heap.size)
    (first | (go_keep; done) | (refine ⟨by simp, by simp, by simp, by simp, by simp, by simp, by simp, by simp, ((Below.refl _ _).alloc (Nat.le_refl _) _).drew, by simp⟩) | (go_split_ands; exact ⟨keep_cell (by assumption) hbel, keep_cell (by assumption) hbel, keep_cell (by assumption) hbel, keep_cell (by assumption) hbel, keep_cell (by assumption) hbel, keep_cell (by assumption) hbel, keep_cell (by assumption) hbel, keep_cell (by assumption) hbel, keep_below (by assumption) hbel (by assumption), Nat.le_trans (by assumption) hbel.size⟩))
    ((first | (go_at_call 88; refine (wheader_any p _ (unhide Hp)).mono ?_; rintro e w' ⟨rfl, hbel⟩) | (go_at_call 89; refine (text8_any _ _ (by omega) (by omega)).mono ?_; rintro e w' ⟨rfl, hbel⟩)))
  all_goals go_split_ands
  all_goals
    have HB : Below w.heap.size w w' := by assumption
    have HZ : w.heap.size ≤ w'.heap.size := by assumption
    have hlen : (bs (hdrL p ++ (be p.body.length 1 ++ p.body))).size ≤ maxLen := by rw [bs_size]; have := bareL_length p; unfold bareL at this; unfold maxLen; omega
    have hS : plain.sumOf (bareL p) ≤ 65535 := by unfold plain.sumOf; omega
    have HS := hide (bs_list (bareL p))
    unfold bareL at HS
    go_wp2_with (first | (go_at_call 47; refine (bits.csum_any _ _ hlen).mono ?_; rintro e w2 ⟨rfl, rfl⟩; rw [unhide HS]) | (go_at_call 90; refine (text16_any _ _ (by omega) (by unfold bareL at hS; omega)).mono ?_; rintro e w3 ⟨rfl, hbel3⟩))
    go_ret2
    exact ⟨ret_si (by simp [textL, bareL]) rfl, HB.trans (hbel3.mono HZ)⟩

theorem pwrite_any (p : Pk) (w : World) (hp : p.ok) (h' : p.body.length ≤ 9223372036854775807) :
    Calls Try.prog 55 #[.agg p.cells] w fun e w' => e = .returned (.tuple #[.string (bs (writeR p)), .int .i64 (writeE p)]) ∧ Below w.heap.size w w' := by
  unfold writeR writeE
  by_cases h : p.body.length ≤ 100
  · rw [if_pos h, if_pos h]; exact pwrite_good p w hp h
  · rw [if_neg h, if_neg h]; exact pwrite_long p w (by omega) h'

set_option maxHeartbeats 1000000 in
set_option maxRecDepth 100000 in
theorem gwrite_any (p : Pk) (w : World) (hp : p.ok) (h' : p.body.length ≤ 9223372036854775807) :
    Calls Try.prog 27 #[.agg p.cells] w fun e w' => e = .returned (.tuple #[.string (bs (writeR p)), .int .i64 (writeE p)]) ∧ Below w.heap.size w w' := by
  have Hp := hide hp
  unfold Pk.cells
  go_enter Try.func27, Try.ntmps27
  go_wp2_with (go_at_call 55; refine (pwrite_any p _ (unhide Hp) h').mono ?_; rintro e w2 ⟨rfl, hb2⟩)
  go_ret2
  exact ⟨rfl, ((Below.refl _ _).alloc (Nat.le_refl _) _).trans (hb2.mono (by simp))⟩

end Go.Proofs.Ytgpojbgjfibblaa.texts

namespace Go.Proofs.Ytgpojbgjfibblaa.texts
set_option linter.unusedVariables false

theorem snoc_cases (l : List UInt8) (k : Nat) (h : l.length = k + 1) : ∃ m b, l = m ++ [b] ∧ m.length = k := by
  refine ⟨l.take k, l[k], ?_, by simp; omega⟩
  rw [← List.take_succ_eq_append_getElem (by omega), List.take_of_length_le (by omega)]
theorem be_numOf (k : Nat) : ∀ l : List UInt8, l.length = k → be (numOf l) k = l := by
  induction k with
  | zero => intro l h; rw [List.length_eq_zero_iff.1 h]; rfl
  | succ k ih =>
    intro l h
    obtain ⟨m, b, rfl, hm⟩ := snoc_cases l k h
    have hb := b.toNat_lt
    rw [numOf_snoc]
    have e1 : (256 * numOf m + b.toNat) / 256 = numOf m := by omega
    have e2 : (256 * numOf m + b.toNat) % 256 = b.toNat := by omega
    simp only [be]
    rw [e1, e2, ih m hm]
    simp
theorem glue (l : List UInt8) (i j : Nat) (h : i ≤ j) : l.take i ++ (l.take j).drop i = l.take j := by
  have e := List.take_append_drop i (l.take j)
  rwa [List.take_take, Nat.min_eq_left h] at e
theorem cut_len (l : List UInt8) (i j : Nat) (h : j ≤ l.length) : ((l.take j).drop i).length = j - i := by simp; omega

theorem bare_seem (l : List UInt8) (h : l.length = 22 + at19 l) : bareL (seemP l) = l.take (20 + at19 l) := by
  have h19 : 19 < l.length := by omega
  have hb : at19 l = l[19].toNat := by unfold at19; rw [List.getElem?_eq_getElem h19]; rfl
  have hblen : (seemP l).body.length = at19 l := by simp [seemP, withP]; omega
  have e0 : (seemP l).src = numOf (l.take 4) := by unfold seemP withP; simp only [take_take' l 10 4 (by decide)]
  have e1 : (seemP l).dst = numOf ((l.take 8).drop 4) := by unfold seemP withP; simp only [take_take' l 10 8 (by decide)]
  have e2 : (seemP l).port = numOf ((l.take 10).drop 8) := by unfold seemP withP; simp only [take_take' l 10 10 (by decide)]
  have e3 : (seemP l).seq = numOf ((l.take 12).drop 10) := by unfold seemP withP; simp only [cut_cut0 l 19 10 2 (by decide)]
  have e4 : (seemP l).time = numOf ((l.take 16).drop 12) := by unfold seemP withP; simp only [cut_cut l 19 10 2 6 (by decide)]
  have e5 : (seemP l).id = numOf ((l.take 18).drop 16) := by unfold seemP withP; simp only [cut_cut l 19 10 6 8 (by decide)]
  have e6 : (seemP l).flags = numOf ((l.take 19).drop 18) := by unfold seemP withP; simp only [cut_cut l 19 10 8 9 (by decide)]
  have e7 : (seemP l).body = (l.take (20 + at19 l)).drop 20 := rfl
  have e8 : be (seemP l).body.length 1 = (l.take 20).drop 19 := by
    rw [hblen, hb, wbe1 _ l[19].toNat_lt, one_cut l 19 h19]
    simp
  unfold bareL hdrL headL restL
  rw [e8, e0, e1, e2, e3, e4, e5, e6, e7]
  rw [be_numOf 4 _ (by simp; omega), be_numOf 4 _ (by rw [cut_len _ _ _ (by omega)]), be_numOf 2 _ (by rw [cut_len _ _ _ (by omega)]), be_numOf 2 _ (by rw [cut_len _ _ _ (by omega)]), be_numOf 4 _ (by rw [cut_len _ _ _ (by omega)]), be_numOf 2 _ (by rw [cut_len _ _ _ (by omega)]), be_numOf 1 _ (by rw [cut_len _ _ _ (by omega)])]
  rw [glue l 4 8 (by decide), glue l 8 10 (by decide)]
  simp only [← List.append_assoc]
  rw [glue l 10 12 (by decide), glue l 12 16 (by decide), glue l 16 18 (by decide), glue l 18 19 (by decide), glue l 19 20 (by decide), glue l 20 _ (by omega)]

theorem text_seem (l : List UInt8) (h : l.length = 22 + at19 l) : textL (seemP l) = l ↔ l.drop (20 + at19 l) = be (plain.sumOf (l.take (20 + at19 l))) 2 := by
  unfold textL
  rw [bare_seem l h]
  constructor
  · intro e
    have e2 : l.take (20 + at19 l) ++ be (plain.sumOf (l.take (20 + at19 l))) 2 = l.take (20 + at19 l) ++ l.drop (20 + at19 l) := by rw [List.take_append_drop]; exact e
    exact (List.append_cancel_left e2).symm
  · intro e
    rw [← e, List.take_append_drop]

theorem read_ends (l : List UInt8) (h : l.length = 22 + at19 l) (hl : at19 l ≤ 100) :
    (l.drop (20 + at19 l) = be (plain.sumOf (l.take (20 + at19 l))) 2 → readE l = 0 ∧ readR l = seemP l) ∧ (l.drop (20 + at19 l) ≠ be (plain.sumOf (l.take (20 + at19 l))) 2 → readE l = 5 ∧ readR l = zeroP) := by
  have e2 : readE l = if textL (seemP l) = l then 0 else 5 := by
    unfold readE
    rw [if_neg (by omega), if_neg (by omega), if_neg (by omega)]
  have iff := text_seem l h
  unfold readR
  rw [e2]
  constructor
  · intro h1; rw [if_pos (iff.2 h1)]; exact ⟨rfl, if_pos rfl⟩
  · intro h1; rw [if_neg (fun e => h1 (iff.1 e))]; exact ⟨rfl, if_neg (by decide)⟩

end Go.Proofs.Ytgpojbgjfibblaa.texts
