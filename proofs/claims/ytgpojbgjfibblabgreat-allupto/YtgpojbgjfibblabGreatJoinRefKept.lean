/-
  The walks of the document's states (package gistref): StateOf, tiny, short, down. The kind that says least: as the program and as the document reckon it. The walk of the document's frames (package gistref): says. The document's contexts in memory (package gistref); the walks of kept and kind.
  Conditions stand in each theorem.
-/
import Derived.Test.YtgpojbgjfibblabGreatFrameWalk
import Derived.Test.YtgpojbgjfibblabGreatJoinRefCheck
namespace Go.Proofs.YtgpojbgjfibblabGreat.texts
open Go.RowKit
set_option linter.unusedVariables false
attribute [local go_sem ↓] Go.wp_at_zero Go.wp_at_succ

theorem mod16_any (n : Int) (w : World) (hn : -9223372036854775808 ≤ n) (hn' : n ≤ 9223372036854775807) :
    Calls Tryz.prog 78 #[.int .i64 n, .int .i64 16] w fun e w' => e = .returned (.int .i64 (n % 65536)) ∧ w' = w :=
  bits.mod_any n 16 w (by omega) (by omega) hn hn'
theorem mod32_any (n : Int) (w : World) (hn : -9223372036854775808 ≤ n) (hn' : n ≤ 9223372036854775807) :
    Calls Tryz.prog 78 #[.int .i64 n, .int .i64 32] w fun e w' => e = .returned (.int .i64 (n % 4294967296)) ∧ w' = w :=
  bits.mod_any n 32 w (by omega) (by omega) hn hn'

theorem pw16e : bits.pw 16 = 65536 := rfl
theorem pw32e : bits.pw 32 = 4294967296 := rfl
theorem off_mod {a b : Nat} (ha : a < 65536) (hb : b < 65536) : ((a : Int) - b) % 65536 = (((a + 65536 - b) % 65536 : Nat) : Int) := by omega
theorem lag_mod {t x s : Nat} (ht : t < 4294967296) (hx : x * s < 4294967296) : ((t : Int) - x * s) % 4294967296 = (((t + 4294967296 - x * s) % 4294967296 : Nat) : Int) := by
  rw [← Int.natCast_mul]
  generalize x * s = y at *
  omega

set_option maxRecDepth 100000 in
set_option maxHeartbeats 1000000 in
theorem rstateOf_any (p : Pk) (stride : Nat) (w : World) (hp : p.ok) (hs : stride < 65536) :
    Calls Tryz.prog 77 #[.agg p.flat, .int .i64 stride] w fun e w' => e = .returned (.agg (stateN p stride).flat) ∧ Below w.heap.size w w' := by
  obtain ⟨h1, h2, h3, h4, h5, h6, h7⟩ := hp
  have h := way_lt hs h4
  have hn : (stride : Int) * p.seq < 4294967296 := by rw [← Int.natCast_mul]; omega
  have hn0 : (0 : Int) ≤ (stride : Int) * p.seq := by rw [← Int.natCast_mul]; omega
  have x1 : IntKind.i64.wrap ((p.id : Int) - p.seq) = (p.id : Int) - p.seq := by rw [IntKind.wrap_i64]; omega
  have x2 : IntKind.i64.wrap ((stride : Int) * p.seq) = (stride : Int) * p.seq := by rw [IntKind.wrap_i64]; omega
  have x3 : IntKind.i64.wrap ((p.time : Int) - (stride : Int) * p.seq) = (p.time : Int) - (stride : Int) * p.seq := by rw [IntKind.wrap_i64]; omega
  unfold Pk.flat
  go_enter Tryz.func77, Tryz.ntmps77
  go_wp2_with fail
  go_region_held3 (fun w' => w'.cell? ⟨w.heap.size, 3, none⟩ = some (.int .i64 p.seq) ∧ w'.cell? ⟨w.heap.size, 4, none⟩ = some (.int .i64 p.time) ∧ w'.cell? ⟨w.heap.size, 5, none⟩ = some (.int .i64 p.id) ∧ w'.cell? ⟨w.heap.size, 6, none⟩ = some (.int .i64 p.flags))
    ((first | (refine ⟨by simp, by simp, by simp, by simp⟩) | (go_keep; done)))
    ((go_at_call 78; refine (bits.mod_any _ _ _ (by omega) (by omega) (by omega) (by omega)).mono ?_; rintro e w' ⟨rfl, rfl⟩))
  all_goals go_split_ands
  all_goals go_wp2
  all_goals exact bodyPost_ret (v := .agg (stateN p stride).flat) (by simp [results, Tryz.results77, go_sem, St.flat, stateN, pw16e, pw32e, off_mod h6 h4, lag_mod h5 h]) rfl ⟨rfl, (((Below.refl _ _).alloc (Nat.le_refl _) _).alloc (by simp) _).drew⟩

set_option maxRecDepth 100000 in
set_option maxHeartbeats 1000000 in
theorem down_any (n : Nat) (w : World) (h : n ≤ 4) :
    Calls Tryz.prog 47 #[.int .i64 n] w fun e w' => e = .returned (.int .i64 (n - 1 : Nat)) ∧ w' = w := by
  by_cases h0 : 0 < n
  · go_enter Tryz.func47, Tryz.ntmps47
    go_wp2
    go_ret
    exact ⟨ret_int (by omega), rfl⟩
  · have e : n = 0 := by omega
    subst e
    go_enter Tryz.func47, Tryz.ntmps47
    go_wp2
    go_ret
    exact ⟨rfl, rfl⟩

/-- Fits of the document's, by its width -/
theorem rfit16 (v r k p : Nat) (w : World) (hk : k ≤ 16) (hv : v < 65536) (hr : r < 65536) (hp : p < 2 ^ k) :
    Calls Tryz.prog 108 #[.int .i64 16, .int .i64 v, .int .i64 r, .int .i64 k, .int .i64 p] w fun e w' => e = .returned (.bool (bits.fitR 16 v r k p)) ∧ w' = w := by
  have hpk : p < 65536 := Nat.lt_of_lt_of_le hp (Nat.pow_le_pow_right (by omega) hk)
  have h := bits.rfits_any 16 v r k p w (by omega) (by omega) (by omega) (by omega) (by omega) (by omega) (by omega) (by omega) (by omega)
  have hc : (p : Int) < bits.cnt k 16 := by rw [bits.cnt_good (by omega) (by omega)]; simp only [Int.toNat_natCast]; exact_mod_cast hp
  rw [bits.fitB_eq (by omega) (by omega) (by omega) (show (v : Int) < bits.pw (16 : Int).toNat from (show (v : Int) < 65536 by omega)) hc]
  exact h
theorem rfit32 (v r k p : Nat) (w : World) (hk : k ≤ 32) (hv : v < 4294967296) (hr : r < 4294967296) (hp : p < 2 ^ k) (hp2 : p < 4294967296) :
    Calls Tryz.prog 108 #[.int .i64 32, .int .i64 v, .int .i64 r, .int .i64 k, .int .i64 p] w fun e w' => e = .returned (.bool (bits.fitR 32 v r k p)) ∧ w' = w := by
  have h := bits.rfits_any 32 v r k p w (by omega) (by omega) (by omega) (by omega) (by omega) (by omega) (by omega) (by omega) (by omega)
  have hc : (p : Int) < bits.cnt k 32 := by rw [bits.cnt_good (by omega) (by omega)]; simp only [Int.toNat_natCast]; exact_mod_cast hp
  rw [bits.fitB_eq (by omega) (by omega) (by omega) (show (v : Int) < bits.pw (32 : Int).toNat from (show (v : Int) < 4294967296 by omega)) hc]
  exact h

theorem fitB16 (v r k p : Nat) (hk : k ≤ 16) (hv : v < 65536) (hp : p < 2 ^ k) : bits.fitB 16 v r k p = bits.fitR 16 v r k p := by
  have hc : (p : Int) < bits.cnt k 16 := by rw [bits.cnt_good (by omega) (by omega)]; simp only [Int.toNat_natCast]; exact_mod_cast hp
  exact (bits.fitB_eq (by omega) (by omega) (by omega) (show (v : Int) < bits.pw (16 : Int).toNat from (show (v : Int) < 65536 by omega)) hc).symm
theorem fitB32 (v r k p : Nat) (hk : k ≤ 32) (hv : v < 4294967296) (hp : p < 2 ^ k) : bits.fitB 32 v r k p = bits.fitR 32 v r k p := by
  have hc : (p : Int) < bits.cnt k 32 := by rw [bits.cnt_good (by omega) (by omega)]; simp only [Int.toNat_natCast]; exact_mod_cast hp
  exact (bits.fitB_eq (by omega) (by omega) (by omega) (show (v : Int) < bits.pw (32 : Int).toNat from (show (v : Int) < 4294967296 by omega)) hc).symm
def tinyB (n r : St) : Bool := bits.fitR 16 n.seq r.seq 4 1 && decide (n.stride = r.stride ∧ n.offset = r.offset ∧ n.lag = r.lag ∧ n.flags = r.flags)
def shortB (n r : St) : Bool := bits.fitR 16 n.seq r.seq 8 1 && bits.fitR 16 n.offset r.offset 8 128 && bits.fitR 32 n.lag r.lag 8 128 && decide (n.stride = r.stride ∧ n.flags = r.flags)

theorem tinyB_iff (n r : St) : tinyB n r = true ↔ bits.fitR 16 n.seq r.seq 4 1 = true ∧ n.stride = r.stride ∧ n.offset = r.offset ∧ n.lag = r.lag ∧ n.flags = r.flags := by
  unfold tinyB
  rw [Bool.and_eq_true, decide_eq_true_eq]
theorem shortB_iff (n r : St) : shortB n r = true ↔ bits.fitR 16 n.seq r.seq 8 1 = true ∧ bits.fitR 16 n.offset r.offset 8 128 = true ∧ bits.fitR 32 n.lag r.lag 8 128 = true ∧ n.stride = r.stride ∧ n.flags = r.flags := by
  unfold shortB
  rw [Bool.and_eq_true, Bool.and_eq_true, Bool.and_eq_true, decide_eq_true_eq, and_assoc, and_assoc]

set_option maxRecDepth 100000 in
set_option maxHeartbeats 1000000 in
theorem rtiny_any (n r : St) (w : World) (hn : n.ok) (hr : r.ok) :
    Calls Tryz.prog 79 #[.agg n.flat, .agg r.flat] w fun e w' => e = .returned (.bool (tinyB n r)) ∧ Below w.heap.size w w' := by
  obtain ⟨h1, h2, h3, h4, h5⟩ := hn
  obtain ⟨g1, g2, g3, g4, g5⟩ := hr
  unfold St.flat
  go_enter Tryz.func79, Tryz.ntmps79
  go_wp2_with (go_at_call 108; refine (rfit16 n.seq r.seq 4 1 _ (by omega) h1 g1 (by decide)).mono ?_; rintro e w' ⟨rfl, rfl⟩)
  all_goals go_ret
  all_goals refine ⟨ret_bool ?_, ((Below.refl _ _).alloc (Nat.le_refl _) _).alloc (by simp) _⟩
  all_goals first
    | (exact ((tinyB_iff n r).2 ⟨by assumption, by omega, by omega, by omega, by omega⟩).symm)
    | (symm; rw [Bool.eq_false_iff]; intro hh; obtain ⟨a1, a2, a3, a4, a5⟩ := (tinyB_iff n r).1 hh; first | omega | contradiction)

set_option maxRecDepth 100000 in
set_option maxHeartbeats 1000000 in
theorem rshort_any (n r : St) (w : World) (hn : n.ok) (hr : r.ok) :
    Calls Tryz.prog 80 #[.agg n.flat, .agg r.flat] w fun e w' => e = .returned (.bool (shortB n r)) ∧ Below w.heap.size w w' := by
  obtain ⟨h1, h2, h3, h4, h5⟩ := hn
  obtain ⟨g1, g2, g3, g4, g5⟩ := hr
  have F1 : bits.fitB 16 n.seq r.seq 8 1 = bits.fitR 16 n.seq r.seq 8 1 := fitB16 n.seq r.seq 8 1 (by omega) h1 (by decide)
  have F2 : bits.fitB 16 n.offset r.offset 8 128 = bits.fitR 16 n.offset r.offset 8 128 := fitB16 n.offset r.offset 8 128 (by omega) h3 (by decide)
  have F3 : bits.fitB 32 n.lag r.lag 8 128 = bits.fitR 32 n.lag r.lag 8 128 := fitB32 n.lag r.lag 8 128 (by omega) h4 (by decide)
  unfold St.flat
  go_enter Tryz.func80, Tryz.ntmps80
  go_wp2_with (go_at_call 108; refine (bits.rfits_any _ _ _ _ _ _ (by omega) (by omega) (by omega) (by omega) (by omega) (by omega) (by omega) (by omega) (by omega)).mono ?_; rintro e w' ⟨rfl, rfl⟩)
  all_goals go_ret
  all_goals refine ⟨ret_bool ?_, ((Below.refl _ _).alloc (Nat.le_refl _) _).alloc (by simp) _⟩
  all_goals first
    | (exact ((shortB_iff n r).2 ⟨by assumption, by assumption, by assumption, by omega, by omega⟩).symm)
    | (symm; rw [Bool.eq_false_iff]; intro hh; obtain ⟨a1, a2, a3, a4, a5⟩ := (shortB_iff n r).1 hh; first | omega | contradiction)
    | (rw [Bool.eq_iff_iff, shortB_iff]; simp only [beq_iff_eq]; constructor <;> intro hh <;> (first | omega | (refine ⟨by assumption, by assumption, by assumption, by omega, by omega⟩)))

end Go.Proofs.YtgpojbgjfibblabGreat.texts

namespace Go.Proofs.YtgpojbgjfibblabGreat.texts
open Go.RowKit
set_option linter.unusedVariables false

theorem fit4_8 {v r : Nat} (h : bits.fitR 16 v r 4 1 = true) : bits.fitR 16 v r 8 1 = true := by
  have c4 : bits.cnt 4 16 = 16 := by decide
  have c8 : bits.cnt 8 16 = 256 := by decide
  unfold bits.fitR at *
  rw [c4] at h
  rw [c8]
  simp only [decide_eq_true_eq] at *
  omega
theorem fit_self16 (v : Nat) : bits.fitR 16 v v 8 128 = true := by
  have c8 : bits.cnt 8 16 = 256 := by decide
  unfold bits.fitR
  rw [c8]
  simp only [decide_eq_true_eq]
  refine ⟨by omega, ?_⟩
  rw [show (v : Int) - (v - 128) = 128 by omega]
  decide
theorem fit_self32 (v : Nat) : bits.fitR 32 v v 8 128 = true := by
  have c8 : bits.cnt 8 32 = 256 := by decide
  unfold bits.fitR
  rw [c8]
  simp only [decide_eq_true_eq]
  refine ⟨by omega, ?_⟩
  rw [show (v : Int) - (v - 128) = 128 by omega]
  decide
theorem tiny_short {n r : St} (h : tinyB n r = true) : shortB n r = true := by
  obtain ⟨h1, h2, h3, h4, h5⟩ := (tinyB_iff n r).1 h
  refine (shortB_iff n r).2 ⟨fit4_8 h1, ?_, ?_, h2, h5⟩
  · rw [h3]; exact fit_self16 _
  · rw [h4]; exact fit_self32 _
theorem needs_is (n r : St) : needsN n r = if tinyB n r = true then 0 else if shortB n r = true then 1 else 2 := by
  by_cases ht : tinyB n r = true
  · rw [if_pos ht]
    obtain ⟨h1, h2, h3, h4, h5⟩ := (tinyB_iff n r).1 ht
    unfold needsN
    rw [if_pos ⟨h2, h5⟩, if_pos ⟨h3, h4, h1⟩]
  · rw [if_neg ht]
    by_cases hs : shortB n r = true
    · rw [if_pos hs]
      obtain ⟨h1, h2, h3, h4, h5⟩ := (shortB_iff n r).1 hs
      unfold needsN
      rw [if_pos ⟨h4, h5⟩, if_neg (fun e => ht ((tinyB_iff n r).2 ⟨e.2.2, h4, e.1, e.2.1, h5⟩)), if_pos ⟨h1, h2, h3⟩]
    · rw [if_neg hs]
      unfold needsN
      by_cases hc : n.stride = r.stride ∧ n.flags = r.flags
      · rw [if_pos hc, if_neg (fun e => ht ((tinyB_iff n r).2 ⟨e.2.2, hc.1, e.1, e.2.1, hc.2⟩)), if_neg (fun e => hs ((shortB_iff n r).2 ⟨e.1, e.2.1, e.2.2, hc.1, hc.2⟩))]
      · rw [if_neg hc]

/-- the greatest need of a list -/
def mostN (n : St) (l : List St) : Nat := l.foldl (fun k r => max k (needsN n r)) 0
theorem most_from (n : St) (l : List St) : ∀ k, l.foldl (fun k r => max k (needsN n r)) k = max k (mostN n l) := by
  induction l with
  | nil => intro k; simp [mostN]
  | cons r l ih =>
    intro k
    unfold mostN
    rw [List.foldl_cons, List.foldl_cons, ih, ih]
    omega
theorem most_cons (n r : St) (l : List St) : mostN n (r :: l) = max (needsN n r) (mostN n l) := by
  rw [mostN, List.foldl_cons, most_from]; omega
theorem most_append (n : St) (l m : List St) : mostN n (l ++ m) = max (mostN n l) (mostN n m) := by
  rw [mostN, List.foldl_append, most_from]; rfl
theorem most_reverse (n : St) (l : List St) : mostN n l.reverse = mostN n l := by
  induction l with
  | nil => rfl
  | cons r l ih =>
    rw [List.reverse_cons, most_append, ih, most_cons, most_cons]
    simp [mostN]
    omega
theorem most_le (n : St) (l : List St) : mostN n l ≤ 2 := foldl_max_le _ _ _ (by omega)
theorem least_most (c : Cx) (n : St) : leastN c n = mostN n c.sts := rfl
theorem most_snoc (n : St) (l : List St) (j : Nat) (h : j < l.length) : mostN n (l.take (j + 1)) = max (mostN n (l.take j)) (needsN n l[j]) := by
  rw [List.take_add_one, List.getElem?_eq_getElem h, most_append]
  simp [mostN]
theorem most_ge (n : St) (l : List St) (j : Nat) (h : j < l.length) : needsN n l[j] ≤ mostN n l := by
  have e : mostN n l = max (mostN n (l.take (j + 1))) (mostN n (l.drop (j + 1))) := by rw [← most_append, List.take_append_drop]
  rw [most_snoc n l j h] at e
  omega

end Go.Proofs.YtgpojbgjfibblabGreat.texts

namespace Go.Proofs.YtgpojbgjfibblabGreat.texts
open Go.RowKit
set_option linter.unusedVariables false
attribute [local go_sem ↓] Go.wp_at_zero Go.wp_at_succ
attribute [local go_sem] bs_size be_length bs_append List.length_append headL_length restL_length hdrL_length

/-- a state and a packet in the two blocks that came first; nothing below has changed -/
structure InSP (w : World) (n : St) (p : Pk) (w1 : World) : Prop where
  one : w1.heap[w.heap.size]? = some (.cells n.flat 128 (0, 0))
  two : w1.heap[w.heap.size + 1]? = some (.cells p.flat 120 (0, 0))
  below : Below w.heap.size w w1
theorem InSP.start (w : World) (n : St) (p : Pk) : InSP w n p ((w.alloc (.cells n.flat 128)).alloc (.cells p.flat 120)) :=
  ⟨block_alloc (heap_alloc_new w _) _, by have := heap_alloc_new (w.alloc (.cells n.flat 128)) (.cells p.flat 120); simpa using this, ((Below.refl _ _).alloc (Nat.le_refl _) _).alloc (by simp) _⟩
theorem InSP.call {w w1 w2 : World} {p : Pk} {n : St} (h : InSP w n p w1) (hb : Below w1.heap.size w1 w2) : InSP w n p w2 :=
  ⟨block_keep h.one hb, block_keep h.two hb, keep_below h.below hb (Nat.le_of_lt (block_lt h.one))⟩
theorem InSP.drew {w w1 : World} {p : Pk} {n : St} (h : InSP w n p w1) : InSP w n p w1.drew := ⟨h.one, h.two, h.below.drew⟩
theorem InSP.out {w w1 : World} {p : Pk} {n : St} (h : InSP w n p w1) :
    w1.cell? ⟨w.heap.size, 0, none⟩ = some (.int .i64 n.seq) ∧ w1.cell? ⟨w.heap.size, 1, none⟩ = some (.int .i64 n.stride) ∧ w1.cell? ⟨w.heap.size, 2, none⟩ = some (.int .i64 n.offset) ∧ w1.cell? ⟨w.heap.size, 3, none⟩ = some (.int .i64 n.lag) ∧ w1.cell? ⟨w.heap.size, 4, none⟩ = some (.int .i64 n.flags) ∧ w1.cell? ⟨w.heap.size + 1, 0, none⟩ = some (.int .u32 p.src) ∧ w1.cell? ⟨w.heap.size + 1, 1, none⟩ = some (.int .u32 p.dst) ∧ w1.cell? ⟨w.heap.size + 1, 2, none⟩ = some (.int .u16 p.port) ∧ w1.cell? ⟨w.heap.size + 1, 3, none⟩ = some (.int .i64 p.seq) ∧ w1.cell? ⟨w.heap.size + 1, 4, none⟩ = some (.int .i64 p.time) ∧ w1.cell? ⟨w.heap.size + 1, 5, none⟩ = some (.int .i64 p.id) ∧ w1.cell? ⟨w.heap.size + 1, 6, none⟩ = some (.int .i64 p.flags) ∧ w1.cell? ⟨w.heap.size + 1, 7, none⟩ = some (.string (bs p.body)) ∧ InSP w n p w1 := by
  refine ⟨?_, ?_, ?_, ?_, ?_, ?_, ?_, ?_, ?_, ?_, ?_, ?_, ?_, h⟩
  all_goals first | (rw [block_cell h.one]; rfl) | (rw [block_cell h.two]; rfl)

theorem rchk3 (p : Pk) (w : World) : Calls Tryz.prog 83 #[.int .i64 3, .string (bs (hdrL p))] w fun e w' => e = .returned (.int .i64 (chk 3 p : Nat)) ∧ Below w.heap.size w w' := by
  have h := bits.rcheck_any 3 (bs (hdrL p)) w (by rw [bs_size, hdrL_length]; decide) (by decide)
  rw [bs_list] at h
  exact h
theorem rchk7 (p : Pk) (w : World) : Calls Tryz.prog 83 #[.int .i64 7, .string (bs (hdrL p))] w fun e w' => e = .returned (.int .i64 (chk 7 p : Nat)) ∧ Below w.heap.size w w' := by
  have h := bits.rcheck_any 7 (bs (hdrL p)) w (by rw [bs_size, hdrL_length]; decide) (by decide)
  rw [bs_list] at h
  exact h
theorem rchk8 (p : Pk) (w : World) : Calls Tryz.prog 83 #[.int .i64 8, .string (bs (hdrL p))] w fun e w' => e = .returned (.int .i64 (chk 8 p : Nat)) ∧ Below w.heap.size w w' := by
  have h := bits.rcheck_any 8 (bs (hdrL p)) w (by rw [bs_size, hdrL_length]; decide) (by decide)
  rw [bs_list] at h
  exact h

theorem be_one {a b : Int} {x : Nat} (h : a = x) : be a.toNat 1 = be x 1 := by rw [h]; rfl

set_option maxRecDepth 100000 in
set_option maxHeartbeats 4000000 in
theorem rsays_0 (turn cid : Nat) (p : Pk) (n : St) (w : World) (hp : p.ok) (hn : n.ok) (hc : cid < 8) (ht : turn < 4) (hb : p.body.length ≤ 100) :
    Calls Tryz.prog 49 #[.int .i64 0, .int .i64 turn, .int .i64 cid, .agg n.flat, .agg p.flat] w fun e w' => e = .returned (.string (bs (frameN 0 turn cid n p))) ∧ Below w.heap.size w w' := by
  obtain ⟨hn1, hn2, hn3, hn4, hn5⟩ := hn
  have HP := hide hp
  have HS := hide (InSP.start w n p)
  have c3 := chk_lt3 p
  have c7 := chk_lt7 p
  have c8 := chk_lt8 p
  clear hp
  have t1 : (n.seq : Int).tmod 16 = (n.seq : Int) % 16 := Int.tmod_eq_emod_of_nonneg (by omega)
  have t2 : IntKind.i64.wrap (16 * ((n.seq : Int) % 16)) = 16 * ((n.seq : Int) % 16) := by rw [IntKind.wrap_i64]; omega
  have t3 : IntKind.i64.wrap (2 * (chk 3 p : Int)) = 2 * (chk 3 p : Int) := by rw [IntKind.wrap_i64]; omega
  have t4 : IntKind.i64.wrap (16 * ((n.seq : Int) % 16) + 2 * (chk 3 p : Int)) = 16 * ((n.seq : Int) % 16) + 2 * (chk 3 p : Int) := by rw [IntKind.wrap_i64]; omega
  have z0 : ¬ (1 + 1 + p.body.length > 9223372036854775807) := by omega
  have z1 : ¬ (1 + (1 + p.body.length) > 9223372036854775807) := by omega
  have z2 : ¬ (2 + p.body.length > 9223372036854775807) := by omega
  unfold St.flat Pk.flat
  go_enter Tryz.func49, Tryz.ntmps49
  go_wp2_with (first
    | (go_at_call 81; refine (bytes_any _ _ _ (by omega) (by omega) (by omega) (by omega)).mono ?_; rintro e w1 ⟨rfl, hb1⟩; have K := (unhide HS).call hb1; clear HS; obtain ⟨a0, a1, a2, a3, a4, b0, b1, b2, b3, b4, b5, b6, b7, K⟩ := K.out; have HS := hide K; clear K hb1)
    | (go_at_call 82; refine (header_any p _ (unhide HP)).mono ?_; rintro e w2 ⟨rfl, hb1⟩; have K := (unhide HS).call hb1; clear HS; have HS := hide K; clear K hb1))
  have HQ := hide (unhide HS).drew
  go_region_held3 (fun w' => w'.cell? ⟨w.heap.size, 0, none⟩ = some (.int .i64 n.seq) ∧ w'.cell? ⟨w.heap.size, 1, none⟩ = some (.int .i64 n.stride) ∧ w'.cell? ⟨w.heap.size, 2, none⟩ = some (.int .i64 n.offset) ∧ w'.cell? ⟨w.heap.size, 3, none⟩ = some (.int .i64 n.lag) ∧ w'.cell? ⟨w.heap.size, 4, none⟩ = some (.int .i64 n.flags) ∧ w'.cell? ⟨w.heap.size + 1, 0, none⟩ = some (.int .u32 p.src) ∧ w'.cell? ⟨w.heap.size + 1, 1, none⟩ = some (.int .u32 p.dst) ∧ w'.cell? ⟨w.heap.size + 1, 2, none⟩ = some (.int .u16 p.port) ∧ w'.cell? ⟨w.heap.size + 1, 3, none⟩ = some (.int .i64 p.seq) ∧ w'.cell? ⟨w.heap.size + 1, 4, none⟩ = some (.int .i64 p.time) ∧ w'.cell? ⟨w.heap.size + 1, 5, none⟩ = some (.int .i64 p.id) ∧ w'.cell? ⟨w.heap.size + 1, 6, none⟩ = some (.int .i64 p.flags) ∧ w'.cell? ⟨w.heap.size + 1, 7, none⟩ = some (.string (bs p.body)) ∧ InSP w n p w')
    ((first | (exact (unhide HS).drew.out) | (exact (unhide (by assumption : Hid (InSP w n p _))).out)))
    ((first | (go_at_call 83; refine (rchk3 p _).mono ?_; rintro e w1 ⟨rfl, hbel⟩; have HQ := hide (InSP.call (unhide (by assumption : Hid (InSP w n p _))) hbel)) | (go_at_call 81; refine (bytes_any _ _ _ (by omega) (by omega) (by omega) (by omega)).mono ?_; rintro e w1 ⟨rfl, hbel⟩; have HQ := hide (InSP.call (unhide (by assumption : Hid (InSP w n p _))) hbel))))
  all_goals go_split_ands
  all_goals (have HT := hide ‹InSP w n p _›)
  all_goals go_wp2
  all_goals go_ret
  all_goals refine ⟨ret_str ?_, (unhide HT).below⟩
  all_goals (have e0 : (16 * (turn : Int) + 2 * cid).toNat = 16 * turn + 2 * cid := by omega)
  all_goals (have e1 : (16 * ((n.seq : Int) % 16) + 2 * (chk 3 p : Int)).toNat = 16 * (n.seq % 16) + 2 * chk 3 p := by omega)
  all_goals simp [frameN, toldN, e0, e1]

set_option maxRecDepth 100000 in
set_option maxHeartbeats 4000000 in
theorem rsays_1 (turn cid : Nat) (p : Pk) (n : St) (w : World) (hp : p.ok) (hn : n.ok) (hc : cid < 8) (ht : turn < 4) (hb : p.body.length ≤ 100) :
    Calls Tryz.prog 49 #[.int .i64 1, .int .i64 turn, .int .i64 cid, .agg n.flat, .agg p.flat] w fun e w' => e = .returned (.string (bs (frameN 1 turn cid n p))) ∧ Below w.heap.size w w' := by
  obtain ⟨hn1, hn2, hn3, hn4, hn5⟩ := hn
  have HP := hide hp
  have HS := hide (InSP.start w n p)
  have c3 := chk_lt3 p
  have c7 := chk_lt7 p
  have c8 := chk_lt8 p
  clear hp
  have t1 : (n.seq : Int).tmod 256 = (n.seq : Int) % 256 := Int.tmod_eq_emod_of_nonneg (by omega)
  have t2 : (n.offset : Int).tmod 256 = (n.offset : Int) % 256 := Int.tmod_eq_emod_of_nonneg (by omega)
  have t3 : (n.lag : Int).tmod 256 = (n.lag : Int) % 256 := Int.tmod_eq_emod_of_nonneg (by omega)
  have z0 : ¬ (5 + p.body.length > 9223372036854775807) := by omega
  have z1 : ¬ (1 + (4 + p.body.length) > 9223372036854775807) := by omega
  have z2 : ¬ (2 + (3 + p.body.length) > 9223372036854775807) := by omega
  have z3 : ¬ (3 + (2 + p.body.length) > 9223372036854775807) := by omega
  have z4 : ¬ (4 + (1 + p.body.length) > 9223372036854775807) := by omega
  unfold St.flat Pk.flat
  go_enter Tryz.func49, Tryz.ntmps49
  go_wp2_with (first
    | (go_at_call 81; refine (bytes_any _ _ _ (by omega) (by omega) (by omega) (by omega)).mono ?_; rintro e w1 ⟨rfl, hb1⟩; have K := (unhide HS).call hb1; clear HS; obtain ⟨a0, a1, a2, a3, a4, b0, b1, b2, b3, b4, b5, b6, b7, K⟩ := K.out; have HS := hide K; clear K hb1)
    | (go_at_call 82; refine (header_any p _ (unhide HP)).mono ?_; rintro e w2 ⟨rfl, hb1⟩; have K := (unhide HS).call hb1; clear HS; have HS := hide K; clear K hb1))
  have HQ := hide (unhide HS).drew
  go_region_held3 (fun w' => w'.cell? ⟨w.heap.size, 0, none⟩ = some (.int .i64 n.seq) ∧ w'.cell? ⟨w.heap.size, 1, none⟩ = some (.int .i64 n.stride) ∧ w'.cell? ⟨w.heap.size, 2, none⟩ = some (.int .i64 n.offset) ∧ w'.cell? ⟨w.heap.size, 3, none⟩ = some (.int .i64 n.lag) ∧ w'.cell? ⟨w.heap.size, 4, none⟩ = some (.int .i64 n.flags) ∧ w'.cell? ⟨w.heap.size + 1, 0, none⟩ = some (.int .u32 p.src) ∧ w'.cell? ⟨w.heap.size + 1, 1, none⟩ = some (.int .u32 p.dst) ∧ w'.cell? ⟨w.heap.size + 1, 2, none⟩ = some (.int .u16 p.port) ∧ w'.cell? ⟨w.heap.size + 1, 3, none⟩ = some (.int .i64 p.seq) ∧ w'.cell? ⟨w.heap.size + 1, 4, none⟩ = some (.int .i64 p.time) ∧ w'.cell? ⟨w.heap.size + 1, 5, none⟩ = some (.int .i64 p.id) ∧ w'.cell? ⟨w.heap.size + 1, 6, none⟩ = some (.int .i64 p.flags) ∧ w'.cell? ⟨w.heap.size + 1, 7, none⟩ = some (.string (bs p.body)) ∧ InSP w n p w')
    ((first | (exact (unhide HS).drew.out) | (exact (unhide (by assumption : Hid (InSP w n p _))).out)))
    ((first | (go_at_call 83; refine (rchk7 p _).mono ?_; rintro e w1 ⟨rfl, hbel⟩; have HQ := hide (InSP.call (unhide (by assumption : Hid (InSP w n p _))) hbel)) | (go_at_call 81; refine (bytes_any _ _ _ (by omega) (by omega) (by omega) (by omega)).mono ?_; rintro e w1 ⟨rfl, hbel⟩; have HQ := hide (InSP.call (unhide (by assumption : Hid (InSP w n p _))) hbel))))
  all_goals go_split_ands
  all_goals (have HT := hide ‹InSP w n p _›)
  all_goals go_wp2
  all_goals go_ret
  all_goals refine ⟨ret_str ?_, (unhide HT).below⟩
  all_goals (have e0 : (64 * (1 : Int) + 16 * (turn : Int) + 2 * cid).toNat = 64 * 1 + 16 * turn + 2 * cid := by omega)
  all_goals (have e0' : (64 + 16 * (turn : Int) + 2 * cid).toNat = 64 + 16 * turn + 2 * cid := by omega)
  all_goals (have e1 : ((n.seq : Int) % 256).toNat = n.seq % 256 := by omega)
  all_goals (have e2 : ((n.offset : Int) % 256).toNat = n.offset % 256 := by omega)
  all_goals (have e3 : ((n.lag : Int) % 256).toNat = n.lag % 256 := by omega)
  all_goals simp [frameN, toldN, e0', e1, e2, e3]

set_option maxRecDepth 100000 in
set_option maxHeartbeats 4000000 in
theorem rsays_2 (turn cid : Nat) (p : Pk) (n : St) (w : World) (hp : p.ok) (hn : n.ok) (hc : cid < 8) (ht : turn < 4) (hb : p.body.length ≤ 100) :
    Calls Tryz.prog 49 #[.int .i64 2, .int .i64 turn, .int .i64 cid, .agg n.flat, .agg p.flat] w fun e w' => e = .returned (.string (bs (frameN 2 turn cid n p))) ∧ Below w.heap.size w w' := by
  obtain ⟨hn1, hn2, hn3, hn4, hn5⟩ := hn
  have HP := hide hp
  have HS := hide (InSP.start w n p)
  have c3 := chk_lt3 p
  have c7 := chk_lt7 p
  have c8 := chk_lt8 p
  clear hp
  have z0 : ¬ (13 + p.body.length > 9223372036854775807) := by omega
  have z1 : ¬ (1 + (12 + p.body.length) > 9223372036854775807) := by omega
  have z2 : ¬ (10 + (3 + p.body.length) > 9223372036854775807) := by omega
  have z3 : ¬ (12 + (1 + p.body.length) > 9223372036854775807) := by omega
  unfold St.flat Pk.flat
  go_enter Tryz.func49, Tryz.ntmps49
  go_wp2_with (first
    | (go_at_call 81; refine (bytes_any _ _ _ (by omega) (by omega) (by omega) (by omega)).mono ?_; rintro e w1 ⟨rfl, hb1⟩; have K := (unhide HS).call hb1; clear HS; obtain ⟨a0, a1, a2, a3, a4, b0, b1, b2, b3, b4, b5, b6, b7, K⟩ := K.out; have HS := hide K; clear K hb1)
    | (go_at_call 82; refine (header_any p _ (unhide HP)).mono ?_; rintro e w2 ⟨rfl, hb1⟩; have K := (unhide HS).call hb1; clear HS; have HS := hide K; clear K hb1))
  have HQ := hide (unhide HS).drew
  go_region_held3 (fun w' => w'.cell? ⟨w.heap.size, 0, none⟩ = some (.int .i64 n.seq) ∧ w'.cell? ⟨w.heap.size, 1, none⟩ = some (.int .i64 n.stride) ∧ w'.cell? ⟨w.heap.size, 2, none⟩ = some (.int .i64 n.offset) ∧ w'.cell? ⟨w.heap.size, 3, none⟩ = some (.int .i64 n.lag) ∧ w'.cell? ⟨w.heap.size, 4, none⟩ = some (.int .i64 n.flags) ∧ w'.cell? ⟨w.heap.size + 1, 0, none⟩ = some (.int .u32 p.src) ∧ w'.cell? ⟨w.heap.size + 1, 1, none⟩ = some (.int .u32 p.dst) ∧ w'.cell? ⟨w.heap.size + 1, 2, none⟩ = some (.int .u16 p.port) ∧ w'.cell? ⟨w.heap.size + 1, 3, none⟩ = some (.int .i64 p.seq) ∧ w'.cell? ⟨w.heap.size + 1, 4, none⟩ = some (.int .i64 p.time) ∧ w'.cell? ⟨w.heap.size + 1, 5, none⟩ = some (.int .i64 p.id) ∧ w'.cell? ⟨w.heap.size + 1, 6, none⟩ = some (.int .i64 p.flags) ∧ w'.cell? ⟨w.heap.size + 1, 7, none⟩ = some (.string (bs p.body)) ∧ InSP w n p w')
    ((first | (exact (unhide HS).drew.out) | (exact (unhide (by assumption : Hid (InSP w n p _))).out)))
    ((first | (go_at_call 84; refine (rest_any p _ (unhide HP)).mono ?_; rintro e w1 ⟨rfl, hbel⟩; have HQ := hide (InSP.call (unhide (by assumption : Hid (InSP w n p _))) hbel)) | (go_at_call 83; refine (rchk8 p _).mono ?_; rintro e w1 ⟨rfl, hbel⟩; have HQ := hide (InSP.call (unhide (by assumption : Hid (InSP w n p _))) hbel)) | (go_at_call 81; refine (bytes_any _ _ _ (by omega) (by omega) (by omega) (by omega)).mono ?_; rintro e w1 ⟨rfl, hbel⟩; have HQ := hide (InSP.call (unhide (by assumption : Hid (InSP w n p _))) hbel))))
  all_goals go_split_ands
  all_goals (have HT := hide ‹InSP w n p _›)
  all_goals go_wp2
  all_goals go_ret
  all_goals refine ⟨ret_str ?_, (unhide HT).below⟩
  all_goals (have e0 : (64 * (2 : Int) + 16 * (turn : Int) + 2 * cid).toNat = 64 * 2 + 16 * turn + 2 * cid := by omega)
  all_goals (have e0' : (128 + 16 * (turn : Int) + 2 * cid).toNat = 128 + 16 * turn + 2 * cid := by omega)
  all_goals simp [frameN, toldN, e0']

set_option maxRecDepth 100000 in
set_option maxHeartbeats 4000000 in
theorem rsays_3 (turn cid : Nat) (p : Pk) (n : St) (w : World) (hp : p.ok) (hn : n.ok) (hc : cid < 8) (ht : turn < 4) (hb : p.body.length ≤ 100) :
    Calls Tryz.prog 49 #[.int .i64 3, .int .i64 turn, .int .i64 cid, .agg n.flat, .agg p.flat] w fun e w' => e = .returned (.string (bs (frameN 3 turn cid n p))) ∧ Below w.heap.size w w' := by
  obtain ⟨hn1, hn2, hn3, hn4, hn5⟩ := hn
  have HP := hide hp
  have HS := hide (InSP.start w n p)
  have c3 := chk_lt3 p
  have c7 := chk_lt7 p
  have c8 := chk_lt8 p
  clear hp
  have z0 : ¬ (23 + p.body.length > 9223372036854775807) := by omega
  have z1 : ¬ (1 + (22 + p.body.length) > 9223372036854775807) := by omega
  have z2 : ¬ (20 + (3 + p.body.length) > 9223372036854775807) := by omega
  have z3 : ¬ (22 + (1 + p.body.length) > 9223372036854775807) := by omega
  unfold St.flat Pk.flat
  go_enter Tryz.func49, Tryz.ntmps49
  go_wp2_with (first
    | (go_at_call 81; refine (bytes_any _ _ _ (by omega) (by omega) (by omega) (by omega)).mono ?_; rintro e w1 ⟨rfl, hb1⟩; have K := (unhide HS).call hb1; clear HS; obtain ⟨a0, a1, a2, a3, a4, b0, b1, b2, b3, b4, b5, b6, b7, K⟩ := K.out; have HS := hide K; clear K hb1)
    | (go_at_call 82; refine (header_any p _ (unhide HP)).mono ?_; rintro e w2 ⟨rfl, hb1⟩; have K := (unhide HS).call hb1; clear HS; have HS := hide K; clear K hb1))
  have HQ := hide (unhide HS).drew
  go_region_held3 (fun w' => w'.cell? ⟨w.heap.size, 0, none⟩ = some (.int .i64 n.seq) ∧ w'.cell? ⟨w.heap.size, 1, none⟩ = some (.int .i64 n.stride) ∧ w'.cell? ⟨w.heap.size, 2, none⟩ = some (.int .i64 n.offset) ∧ w'.cell? ⟨w.heap.size, 3, none⟩ = some (.int .i64 n.lag) ∧ w'.cell? ⟨w.heap.size, 4, none⟩ = some (.int .i64 n.flags) ∧ w'.cell? ⟨w.heap.size + 1, 0, none⟩ = some (.int .u32 p.src) ∧ w'.cell? ⟨w.heap.size + 1, 1, none⟩ = some (.int .u32 p.dst) ∧ w'.cell? ⟨w.heap.size + 1, 2, none⟩ = some (.int .u16 p.port) ∧ w'.cell? ⟨w.heap.size + 1, 3, none⟩ = some (.int .i64 p.seq) ∧ w'.cell? ⟨w.heap.size + 1, 4, none⟩ = some (.int .i64 p.time) ∧ w'.cell? ⟨w.heap.size + 1, 5, none⟩ = some (.int .i64 p.id) ∧ w'.cell? ⟨w.heap.size + 1, 6, none⟩ = some (.int .i64 p.flags) ∧ w'.cell? ⟨w.heap.size + 1, 7, none⟩ = some (.string (bs p.body)) ∧ InSP w n p w')
    ((first | (exact (unhide HS).drew.out) | (exact (unhide (by assumption : Hid (InSP w n p _))).out)))
    ((first | (go_at_call 83; refine (rchk8 p _).mono ?_; rintro e w1 ⟨rfl, hbel⟩; have HQ := hide (InSP.call (unhide (by assumption : Hid (InSP w n p _))) hbel)) | (go_at_call 81; refine (bytes_any _ _ _ (by omega) (by omega) (by omega) (by omega)).mono ?_; rintro e w1 ⟨rfl, hbel⟩; have HQ := hide (InSP.call (unhide (by assumption : Hid (InSP w n p _))) hbel))))
  all_goals go_split_ands
  all_goals (have HT := hide ‹InSP w n p _›)
  all_goals go_wp2
  all_goals go_ret
  all_goals refine ⟨ret_str ?_, (unhide HT).below⟩
  all_goals (have e0 : (64 * (3 : Int) + 16 * (turn : Int) + 2 * cid).toNat = 64 * 3 + 16 * turn + 2 * cid := by omega)
  all_goals (have e0' : (192 + 16 * (turn : Int) + 2 * cid).toNat = 192 + 16 * turn + 2 * cid := by omega)
  all_goals simp [frameN, toldN, e0']

end Go.Proofs.YtgpojbgjfibblabGreat.texts

namespace Go.Proofs.YtgpojbgjfibblabGreat.texts
open Go.RowKit
set_option linter.unusedVariables false
attribute [local go_sem ↓] Go.wp_at_zero Go.wp_at_succ

theorem rsays_any (kind turn cid : Nat) (p : Pk) (n : St) (w : World) (hk : kind ≤ 3) (hp : p.ok) (hn : n.ok) (hc : cid < 8) (ht : turn < 4) (hb : p.body.length ≤ 100) :
    Calls Tryz.prog 49 #[.int .i64 kind, .int .i64 turn, .int .i64 cid, .agg n.flat, .agg p.flat] w fun e w' => e = .returned (.string (bs (frameN kind turn cid n p))) ∧ Below w.heap.size w w' := by
  obtain rfl | rfl | rfl | rfl : kind = 0 ∨ kind = 1 ∨ kind = 2 ∨ kind = 3 := by omega
  · exact rsays_0 turn cid p n w hp hn hc ht hb
  · exact rsays_1 turn cid p n w hp hn hc ht hb
  · exact rsays_2 turn cid p n w hp hn hc ht hb
  · exact rsays_3 turn cid p n w hp hn hc ht hb

/-- a list of states in memory -/
def StsAt (w : World) (v : Value) (l : List St) : Prop :=
  (l = [] ∧ v = .slice none 0 0) ∨ ∃ q o cap, v = .slice (some ⟨q, o, none⟩) l.length cap ∧ l.length ≤ cap ∧ l.length ≤ 1000 ∧ ∀ i (h : i < l.length), w.rangeAt q (o + i * 5) (l[i]).flat.toList

set_option maxRecDepth 100000 in
set_option maxHeartbeats 1000000 in
theorem rkept_any (X : Array Value) (v : Value) (l : List St) (keep : Nat) (w : World) (hX : X[5]? = some v) (hv : StsAt w v l) (hk : 1 ≤ keep) (hk4 : keep ≤ 4) :
    Calls Tryz.prog 48 #[.agg X, .int .i64 keep] w fun e w' => ∃ v', e = .returned v' ∧ StsAt w v' (l.drop (l.length - keep)) ∧ Below w.heap.size w w' := by
  have HV := hide hv
  rcases hv with ⟨rfl, rfl⟩ | ⟨q, o, cap, rfl, hcap, hcap2, hr⟩
  · go_enter Tryz.func48, Tryz.ntmps48
    go_wp2
    go_ret
    exact ⟨_, rfl, by simpa using unhide HV, (Below.refl _ _).alloc (Nat.le_refl _) _⟩
  · have HR := hide hr
    clear hr
    by_cases h : keep < l.length
    · have i0 : (0 : Int) ≤ (l.length : Int) - keep := by omega
      have i1 : (l.length : Int) - keep ≤ l.length := by omega
      have x1 : IntKind.i64.wrap ((l.length : Int) - keep) = (l.length : Int) - keep := by rw [IntKind.wrap_i64]; omega
      go_enter Tryz.func48, Tryz.ntmps48
      go_wp2
      go_ret
      refine ⟨_, rfl, Or.inr ⟨q, o + (l.length - keep) * 5, cap - (l.length - keep), by rw [List.length_drop]; rfl, by rw [List.length_drop]; omega, by rw [List.length_drop]; omega, fun i hi => ?_⟩, (Below.refl _ _).alloc (Nat.le_refl _) _⟩
      have hi' : l.length - keep + i < l.length := by rw [List.length_drop] at hi; omega
      have := (unhide HR) (l.length - keep + i) hi'
      rw [List.getElem_drop]
      rw [show o + (l.length - keep) * 5 + i * 5 = o + (l.length - keep + i) * 5 by omega]
      exact this
    · have e : l.length - keep = 0 := by omega
      rw [e]
      go_enter Tryz.func48, Tryz.ntmps48
      go_wp2
      go_ret
      exact ⟨_, rfl, by simpa using unhide HV, (Below.refl _ _).alloc (Nat.le_refl _) _⟩

end Go.Proofs.YtgpojbgjfibblabGreat.texts
