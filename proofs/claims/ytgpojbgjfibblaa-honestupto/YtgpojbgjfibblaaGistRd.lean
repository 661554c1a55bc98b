/-
  The walk of the program's Read (packages packet and gist).
  Conditions stand in each theorem.
-/
import Derived.Test.YtgpojbgjfibblaaPart8
namespace Go.Proofs.Ytgpojbgjfibblaa.texts
open Go.RowKit
set_option linter.unusedVariables false
attribute [local go_sem ↓] Go.wp_at_zero Go.wp_at_succ
attribute [local go_sem] bs_size be_length bs_append List.length_append headL_length restL_length hdrL_length bs_extract bs_list bs_toList

set_option maxHeartbeats 1000000 in
set_option maxRecDepth 100000 in
theorem pread_few (l : List UInt8) (w : World) (h : l.length < 22) :
    Calls Try.prog 59 #[.string (bs l)] w fun e w' => e = .returned (.tuple #[.agg zeroP.cells, .int .i64 4]) ∧ Below w.heap.size w w' := by
  go_enter Try.func59, Try.ntmps59
  go_wp2_with fail
  exact bodyPost_ret (v := .tuple #[.agg zeroP.cells, .int .i64 4]) (by simp [results, Try.results59, go_sem, zeroP, Pk.cells, bs]) rfl ⟨rfl, (Below.refl _ _).alloc (Nat.le_refl _) _⟩

set_option maxHeartbeats 1000000 in
set_option maxRecDepth 100000 in
theorem pread_else (l : List UInt8) (w : World) (h : 22 ≤ l.length) (hm : l.length ≤ 9223372036854775807) (hne : ¬ l.length = 22 + at19 l) :
    Calls Try.prog 59 #[.string (bs l)] w fun e w' => e = .returned (.tuple #[.agg zeroP.cells, .int .i64 4]) ∧ Below w.heap.size w w' := by
  have hb := at_byte l (Nat.lt_of_lt_of_le (by decide) h)
  have hlt : at19 l < 256 := by unfold at19; exact UInt8.toNat_lt _
  have h19 : 19 < (bs l).size := by rw [bs_size]; omega
  go_enter Try.func59, Try.ntmps59
  go_wp2_with fail
  exact bodyPost_ret (v := .tuple #[.agg zeroP.cells, .int .i64 4]) (by simp [results, Try.results59, go_sem, zeroP, Pk.cells, bs]) rfl ⟨rfl, (Below.refl _ _).alloc (Nat.le_refl _) _⟩

set_option maxHeartbeats 1000000 in
set_option maxRecDepth 100000 in
theorem pread_long (l : List UInt8) (w : World) (h : 22 ≤ l.length) (hm : l.length ≤ 9223372036854775807) (hne : l.length = 22 + at19 l) (hl : 100 < at19 l) :
    Calls Try.prog 59 #[.string (bs l)] w fun e w' => e = .returned (.tuple #[.agg zeroP.cells, .int .i64 2]) ∧ Below w.heap.size w w' := by
  have hb := at_byte l (Nat.lt_of_lt_of_le (by decide) h)
  have hlt : at19 l < 256 := by unfold at19; exact UInt8.toNat_lt _
  have h19 : 19 < (bs l).size := by rw [bs_size]; omega
  have hne2 : ((l.length : Int) != 22 + (at19 l : Int)) = false := by simp; omega
  clear hne
  go_enter Try.func59, Try.ntmps59
  go_wp2_with fail
  exact bodyPost_ret (v := .tuple #[.agg zeroP.cells, .int .i64 2]) (by simp [results, Try.results59, go_sem, zeroP, Pk.cells, bs]) rfl ⟨rfl, (Below.refl _ _).alloc (Nat.le_refl _) _⟩

theorem read_put0 (g : Nat) {B : Nat} {w w2 : World} {z : Array Value} {t : TypeId} (hg : B ≤ g) (hb : Below B w w2) (h : w2.heap[g]? = some (.cells z t (0, 0))) (hz : z.size = 8 := by rfl) :
    ((((((((w2.setCell ⟨g, 0, none⟩ (.int .u32 0)).setCell ⟨g, 1, none⟩ (.int .u32 0)).setCell ⟨g, 2, none⟩ (.int .u16 0)).setCell ⟨g, 3, none⟩ (.int .u16 0)).setCell ⟨g, 4, none⟩ (.int .u32 0)).setCell ⟨g, 5, none⟩ (.int .u16 0)).setCell ⟨g, 6, none⟩ (.int .u8 0)).setCell ⟨g, 7, none⟩ (.string ⟨#[]⟩)).heap[g]? = some (.cells zeroP.cells t (0, 0)) ∧
    Below B w ((((((((w2.setCell ⟨g, 0, none⟩ (.int .u32 0)).setCell ⟨g, 1, none⟩ (.int .u32 0)).setCell ⟨g, 2, none⟩ (.int .u16 0)).setCell ⟨g, 3, none⟩ (.int .u16 0)).setCell ⟨g, 4, none⟩ (.int .u32 0)).setCell ⟨g, 5, none⟩ (.int .u16 0)).setCell ⟨g, 6, none⟩ (.int .u8 0)).setCell ⟨g, 7, none⟩ (.string ⟨#[]⟩)) :=
  read_put zeroP g hg hb h hz

set_option maxHeartbeats 2000000 in
set_option maxRecDepth 100000 in
theorem pread_sum (l : List UInt8) (w : World) (h : 22 ≤ l.length) (hm : l.length ≤ 9223372036854775807) (hne : l.length = 22 + at19 l) (hl : at19 l ≤ 100) (hs : l.drop (20 + at19 l) ≠ be (plain.sumOf (l.take (20 + at19 l))) 2) :
    Calls Try.prog 59 #[.string (bs l)] w fun e w' => e = .returned (.tuple #[.agg zeroP.cells, .int .i64 5]) ∧ Below w.heap.size w w' := by
  have hb := at_byte l (Nat.lt_of_lt_of_le (by decide) h)
  have hlt : at19 l < 256 := by unfold at19; exact UInt8.toNat_lt _
  have h19 : 19 < (bs l).size := by rw [bs_size]; omega
  have hne2 : ((l.length : Int) != 22 + (at19 l : Int)) = false := by simp; omega
  have hlen : (bs (l.take (20 + at19 l))).size ≤ maxLen := by rw [bs_size]; unfold maxLen; simp; omega
  have hS : plain.sumOf (l.take (20 + at19 l)) ≤ 65535 := by unfold plain.sumOf; omega
  have hdl : l.take l.length = l := List.take_length
  have hk : (20 + (at19 l : Int)).toNat = 20 + at19 l := by omega
  have hle : 20 + (at19 l : Int) ≤ (l.length : Int) := by omega
  have h0 : (0 : Int) ≤ 20 + (at19 l : Int) := by omega
  have hq : (l.drop (20 + at19 l) == be (plain.sumOf (l.take (20 + at19 l))) 2) = false := by rw [beq_eq_false_iff_ne]; exact hs
  clear hne hs
  go_enter Try.func59, Try.ntmps59
  go_wp2_with fail
  go_region_held3 (fun w' => w'.heap[w.heap.size]? = some (.cells zeroP.cells 51 (0, 0)) ∧ Below w.heap.size w w')
    (first | (go_keep; done) | (refine ⟨heap_alloc_new w _, ((Below.refl _ _).alloc (Nat.le_refl _) _).drew⟩) | (go_split_ands; exact ⟨block_keep (by assumption) hbel, grew_call (by assumption) hbel⟩))
    ((first | (go_at_call 47; refine (bits.csum_any _ _ hlen).mono ?_; rintro e w2 ⟨rfl, rfl⟩) | (go_at_call 90; refine (text16_any _ _ (by omega) (by omega)).mono ?_; rintro e w' ⟨rfl, hbel⟩)))
  all_goals go_split_ands
  clear hbel
  rename_i hone hbw
  have hB := hide (read_put0 w.heap.size (Nat.le_refl _) hbw hone)
  obtain ⟨e0, e1, e2, e3, e4, e5, e6, e7⟩ := cells8 hone
  obtain ⟨f0, f1, f2, f3, f4, f5, f6, f7⟩ := free8 hone
  clear hone hbw
  go_wp2_with fail
  obtain ⟨r0, r1, r2, r3, r4, r5, r6, r7⟩ := cells8 (unhide hB).1
  exact bodyPost_ret (v := .tuple #[.agg zeroP.cells, .int .i64 5]) (by simp [results, Try.results59, go_sem, Pk.cells, r0, r1, r2, r3, r4, r5, r6, r7]) rfl ⟨rfl, (unhide hB).2⟩

set_option maxHeartbeats 2000000 in
set_option maxRecDepth 100000 in
theorem pread_good (l : List UInt8) (w : World) (h : 22 ≤ l.length) (hm : l.length ≤ 9223372036854775807) (hne : l.length = 22 + at19 l) (hl : at19 l ≤ 100) (hs : l.drop (20 + at19 l) = be (plain.sumOf (l.take (20 + at19 l))) 2) :
    Calls Try.prog 59 #[.string (bs l)] w fun e w' => e = .returned (.tuple #[.agg (seemP l).cells, .int .i64 0]) ∧ Below w.heap.size w w' := by
  have hb := at_byte l (Nat.lt_of_lt_of_le (by decide) h)
  have hlt : at19 l < 256 := by unfold at19; exact UInt8.toNat_lt _
  have h19 : 19 < (bs l).size := by rw [bs_size]; omega
  have hne2 : ((l.length : Int) != 22 + (at19 l : Int)) = false := by simp; omega
  have hlen : (bs (l.take (20 + at19 l))).size ≤ maxLen := by rw [bs_size]; unfold maxLen; simp; omega
  have hS : plain.sumOf (l.take (20 + at19 l)) ≤ 65535 := by unfold plain.sumOf; omega
  have hdl : l.take l.length = l := List.take_length
  have hk : (20 + (at19 l : Int)).toNat = 20 + at19 l := by omega
  have hle : 20 + (at19 l : Int) ≤ (l.length : Int) := by omega
  have h0 : (0 : Int) ≤ 20 + (at19 l : Int) := by omega
  have h20 : (20 : Int) ≤ 20 + (at19 l : Int) := by omega
  have hq : (l.drop (20 + at19 l) == be (plain.sumOf (l.take (20 + at19 l))) 2) = true := by rw [hs]; simp
  clear hne hs
  have HBD := hide (show (seemP l).body = (l.take (20 + at19 l)).drop 20 from rfl)
  go_enter Try.func59, Try.ntmps59
  go_wp2_with fail
  go_region_held3 (fun w' => w'.heap[w.heap.size]? = some (.cells zeroP.cells 51 (0, 0)) ∧ Below w.heap.size w w')
    (first | (go_keep; done) | (refine ⟨heap_alloc_new w _, ((Below.refl _ _).alloc (Nat.le_refl _) _).drew⟩) | (go_split_ands; exact ⟨block_keep (by assumption) hbel, grew_call (by assumption) hbel⟩))
    ((first | (go_at_call 47; refine (bits.csum_any _ _ hlen).mono ?_; rintro e w2 ⟨rfl, rfl⟩) | (go_at_call 90; refine (text16_any _ _ (by omega) (by omega)).mono ?_; rintro e w' ⟨rfl, hbel⟩)))
  all_goals go_split_ands
  clear hbel
  rename_i hone hbw
  have H1 := hide hone
  have H2 := hide hbw
  clear hone hbw
  go_wp2_with (go_at_call 93; refine (wreadHeader_any l _ (by omega) (by omega)).mono ?_; rintro e w3 ⟨rfl, hbel3⟩; have G3 := block_keep (unhide H1) hbel3; have B3 := hide (grew_call (unhide H2) hbel3); have hz3 := block_lt G3; obtain ⟨e0, e1, e2, e3, e4, e5, e6, e7⟩ := cells8 G3; obtain ⟨f0, f1, f2, f3, f4, f5, f6, f7⟩ := free8 G3; have HG3 := hide G3; clear G3 hbel3; unfold Pk.cells)
  have hB := read_put (seemP l) w.heap.size (Nat.le_refl _) (unhide B3) (unhide HG3)
  simp only [bodyless]
  rw [← unhide HBD]
  obtain ⟨r0, r1, r2, r3, r4, r5, r6, r7⟩ := cells8 (block_alloc hB.1 (.cells (seemP l).cells 51))
  unfold Pk.cells at r0 r1 r2 r3 r4 r5 r6 r7
  clear e0 e1 e2 e3 e4 e5 e6 e7 f0 f1 f2 f3 f4 f5 f6 f7
  exact bodyPost_ret (v := .tuple #[.agg (seemP l).cells, .int .i64 0]) (by simp [results, Try.results59, go_sem, Pk.cells, r0, r1, r2, r3, r4, r5, r6, r7]) rfl ⟨rfl, grew_alloc hB.2 _⟩

theorem pread_any (l : List UInt8) (w : World) (hm : l.length ≤ 9223372036854775807) :
    Calls Try.prog 59 #[.string (bs l)] w fun e w' => e = .returned (.tuple #[.agg (readR l).cells, .int .i64 (readE l)]) ∧ Below w.heap.size w w' := by
  by_cases h1 : l.length < 22
  · have e : readE l = 4 := by unfold readE; rw [if_pos h1]
    rw [readR_bad (by rw [e]; decide), e]
    exact pread_few l w h1
  · by_cases h2 : l.length = 22 + at19 l
    · by_cases h3 : 100 < at19 l
      · have e : readE l = 2 := by unfold readE; rw [if_neg h1, if_neg (by omega), if_pos h3]
        rw [readR_bad (by rw [e]; decide), e]
        exact pread_long l w (by omega) hm h2 h3
      · by_cases h4 : l.drop (20 + at19 l) = be (plain.sumOf (l.take (20 + at19 l))) 2
        · obtain ⟨q1, q2⟩ := (read_ends l h2 (by omega)).1 h4
          rw [q1, q2]
          exact pread_good l w (by omega) hm h2 (by omega) h4
        · obtain ⟨q1, q2⟩ := (read_ends l h2 (by omega)).2 h4
          rw [q1, q2]
          exact pread_sum l w (by omega) hm h2 (by omega) h4
    · have e : readE l = 4 := by unfold readE; rw [if_neg h1, if_pos h2]
      rw [readR_bad (by rw [e]; decide), e]
      exact pread_else l w (by omega) hm h2

set_option maxHeartbeats 1000000 in
set_option maxRecDepth 100000 in
theorem gread_any (l : List UInt8) (w : World) (hm : l.length ≤ 9223372036854775807) :
    Calls Try.prog 29 #[.string (bs l)] w fun e w' => e = .returned (.tuple #[.agg (readR l).cells, .int .i64 (readE l)]) ∧ Below w.heap.size w w' := by
  go_enter Try.func29, Try.ntmps29
  go_wp2_with (go_at_call 59; refine (pread_any l _ hm).mono ?_; rintro e w3 ⟨rfl, hbel3⟩; have G3 := block_keep (heap_alloc_new w _) hbel3; have B3 := hide (grew_call ((Below.refl _ _).alloc (Nat.le_refl _) _) hbel3); have hz3 := block_lt G3; obtain ⟨e0, e1, e2, e3, e4, e5, e6, e7⟩ := cells8 (p := zeroP) G3; obtain ⟨f0, f1, f2, f3, f4, f5, f6, f7⟩ := free8 G3; have HG3 := hide G3; clear G3 hbel3; unfold Pk.cells)
  have hB := read_put (readR l) w.heap.size (Nat.le_refl _) (unhide B3) (unhide HG3)
  obtain ⟨r0, r1, r2, r3, r4, r5, r6, r7⟩ := cells8 hB.1
  clear e0 e1 e2 e3 e4 e5 e6 e7 f0 f1 f2 f3 f4 f5 f6 f7
  exact bodyPost_ret (v := .tuple #[.agg (readR l).cells, .int .i64 (readE l)]) (by simp [results, Try.results29, go_sem, Pk.cells, r0, r1, r2, r3, r4, r5, r6, r7]) rfl ⟨rfl, hB.2⟩

end Go.Proofs.Ytgpojbgjfibblaa.texts
