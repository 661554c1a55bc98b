/-
  The walks of the document's states (package gistref): StateOf, tiny, short, down.
  Conditions stand in each theorem.
-/
import Derived.Test.YtgpojbgjfibblaaGreatFrameWalk
import Derived.Test.YtgpojbgjfibblaaGreatPart1
namespace Go.Proofs.YtgpojbgjfibblaaGreat.texts
open Go.RowKit
set_option linter.unusedVariables false
attribute [local go_sem ↓] Go.wp_at_zero Go.wp_at_succ

theorem mod16_any (n : Int) (w : World) (hn : -9223372036854775808 ≤ n) (hn' : n ≤ 9223372036854775807) :
    Calls Tryz.prog 82 #[.int .i64 n, .int .i64 16] w fun e w' => e = .returned (.int .i64 (n % 65536)) ∧ w' = w :=
  bits.mod_any n 16 w (by omega) (by omega) hn hn'
theorem mod32_any (n : Int) (w : World) (hn : -9223372036854775808 ≤ n) (hn' : n ≤ 9223372036854775807) :
    Calls Tryz.prog 82 #[.int .i64 n, .int .i64 32] w fun e w' => e = .returned (.int .i64 (n % 4294967296)) ∧ w' = w :=
  bits.mod_any n 32 w (by omega) (by omega) hn hn'

theorem pw16e : bits.pw 16 = 65536 := rfl
theorem pw32e : bits.pw 32 = 4294967296 := rfl
theorem off_mod {a b : Nat} (ha : a < 65536) (hb : b < 65536) : ((a : Int) - b) % 65536 = (((a + 65536 - b) % 65536 : Nat) : Int) := by omega
theorem lag_mod {t x s : Nat} (ht : t < 4294967296) (hx : x * s < 4294967296) : ((t : Int) - x * s) % 4294967296 = (((t + 4294967296 - x * s) % 4294967296 : Nat) : Int) := by
  rw [← Int.natCast_mul]
  generalize x * s = y at *
  omega

set_option maxRecDepth 100000 in
set_option maxHeartbeats 1000000 in
theorem rstateOf_any (p : Pk) (stride : Nat) (w : World) (hp : p.ok) (hs : stride < 65536) :
    Calls Tryz.prog 81 #[.agg p.flat, .int .i64 stride] w fun e w' => e = .returned (.agg (stateN p stride).flat) ∧ Below w.heap.size w w' := by
  obtain ⟨h1, h2, h3, h4, h5, h6, h7⟩ := hp
  have h := way_lt hs h4
  have hn : (stride : Int) * p.seq < 4294967296 := by rw [← Int.natCast_mul]; omega
  have hn0 : (0 : Int) ≤ (stride : Int) * p.seq := by rw [← Int.natCast_mul]; omega
  have x1 : IntKind.i64.wrap ((p.id : Int) - p.seq) = (p.id : Int) - p.seq := by rw [IntKind.wrap_i64]; omega
  have x2 : IntKind.i64.wrap ((stride : Int) * p.seq) = (stride : Int) * p.seq := by rw [IntKind.wrap_i64]; omega
  have x3 : IntKind.i64.wrap ((p.time : Int) - (stride : Int) * p.seq) = (p.time : Int) - (stride : Int) * p.seq := by rw [IntKind.wrap_i64]; omega
  unfold Pk.flat
  go_enter Tryz.func81, Tryz.ntmps81
  go_wp2_with fail
  go_region_held3 (fun w' => w'.cell? ⟨w.heap.size, 3, none⟩ = some (.int .i64 p.seq) ∧ w'.cell? ⟨w.heap.size, 4, none⟩ = some (.int .i64 p.time) ∧ w'.cell? ⟨w.heap.size, 5, none⟩ = some (.int .i64 p.id) ∧ w'.cell? ⟨w.heap.size, 6, none⟩ = some (.int .i64 p.flags))
    ((first | (refine ⟨by simp, by simp, by simp, by simp⟩) | (go_keep; done)))
    ((go_at_call 82; refine (bits.mod_any _ _ _ (by omega) (by omega) (by omega) (by omega)).mono ?_; rintro e w' ⟨rfl, rfl⟩))
  all_goals go_split_ands
  all_goals go_wp2
  all_goals exact bodyPost_ret (v := .agg (stateN p stride).flat) (by simp [results, Tryz.results81, go_sem, St.flat, stateN, pw16e, pw32e, off_mod h6 h4, lag_mod h5 h]) rfl ⟨rfl, (((Below.refl _ _).alloc (Nat.le_refl _) _).alloc (by simp) _).drew⟩

set_option maxRecDepth 100000 in
set_option maxHeartbeats 1000000 in
theorem down_any (n : Nat) (w : World) (h : n ≤ 4) :
    Calls Tryz.prog 52 #[.int .i64 n] w fun e w' => e = .returned (.int .i64 (n - 1 : Nat)) ∧ w' = w := by
  by_cases h0 : 0 < n
  · go_enter Tryz.func52, Tryz.ntmps52
    go_wp2
    go_ret
    exact ⟨ret_int (by omega), rfl⟩
  · have e : n = 0 := by omega
    subst e
    go_enter Tryz.func52, Tryz.ntmps52
    go_wp2
    go_ret
    exact ⟨rfl, rfl⟩

/-- Fits of the document's, by its width -/
theorem rfit16 (v r k p : Nat) (w : World) (hk : k ≤ 16) (hv : v < 65536) (hr : r < 65536) (hp : p < 2 ^ k) :
    Calls Tryz.prog 110 #[.int .i64 16, .int .i64 v, .int .i64 r, .int .i64 k, .int .i64 p] w fun e w' => e = .returned (.bool (bits.fitR 16 v r k p)) ∧ w' = w := by
  have hpk : p < 65536 := Nat.lt_of_lt_of_le hp (Nat.pow_le_pow_right (by omega) hk)
  have h := bits.rfits_any 16 v r k p w (by omega) (by omega) (by omega) (by omega) (by omega) (by omega) (by omega) (by omega) (by omega)
  have hc : (p : Int) < bits.cnt k 16 := by rw [bits.cnt_good (by omega) (by omega)]; simp only [Int.toNat_natCast]; exact_mod_cast hp
  rw [bits.fitB_eq (by omega) (by omega) (by omega) (show (v : Int) < bits.pw (16 : Int).toNat from (show (v : Int) < 65536 by omega)) hc]
  exact h
theorem rfit32 (v r k p : Nat) (w : World) (hk : k ≤ 32) (hv : v < 4294967296) (hr : r < 4294967296) (hp : p < 2 ^ k) (hp2 : p < 4294967296) :
    Calls Tryz.prog 110 #[.int .i64 32, .int .i64 v, .int .i64 r, .int .i64 k, .int .i64 p] w fun e w' => e = .returned (.bool (bits.fitR 32 v r k p)) ∧ w' = w := by
  have h := bits.rfits_any 32 v r k p w (by omega) (by omega) (by omega) (by omega) (by omega) (by omega) (by omega) (by omega) (by omega)
  have hc : (p : Int) < bits.cnt k 32 := by rw [bits.cnt_good (by omega) (by omega)]; simp only [Int.toNat_natCast]; exact_mod_cast hp
  rw [bits.fitB_eq (by omega) (by omega) (by omega) (show (v : Int) < bits.pw (32 : Int).toNat from (show (v : Int) < 4294967296 by omega)) hc]
  exact h

theorem fitB16 (v r k p : Nat) (hk : k ≤ 16) (hv : v < 65536) (hp : p < 2 ^ k) : bits.fitB 16 v r k p = bits.fitR 16 v r k p := by
  have hc : (p : Int) < bits.cnt k 16 := by rw [bits.cnt_good (by omega) (by omega)]; simp only [Int.toNat_natCast]; exact_mod_cast hp
  exact (bits.fitB_eq (by omega) (by omega) (by omega) (show (v : Int) < bits.pw (16 : Int).toNat from (show (v : Int) < 65536 by omega)) hc).symm
theorem fitB32 (v r k p : Nat) (hk : k ≤ 32) (hv : v < 4294967296) (hp : p < 2 ^ k) : bits.fitB 32 v r k p = bits.fitR 32 v r k p := by
  have hc : (p : Int) < bits.cnt k 32 := by rw [bits.cnt_good (by omega) (by omega)]; simp only [Int.toNat_natCast]; exact_mod_cast hp
  exact (bits.fitB_eq (by omega) (by omega) (by omega) (show (v : Int) < bits.pw (32 : Int).toNat from (show (v : Int) < 4294967296 by omega)) hc).symm
def tinyB (n r : St) : Bool := bits.fitR 16 n.seq r.seq 4 1 && decide (n.stride = r.stride ∧ n.offset = r.offset ∧ n.lag = r.lag ∧ n.flags = r.flags)
def shortB (n r : St) : Bool := bits.fitR 16 n.seq r.seq 8 1 && bits.fitR 16 n.offset r.offset 8 128 && bits.fitR 32 n.lag r.lag 8 128 && decide (n.stride = r.stride ∧ n.flags = r.flags)

theorem tinyB_iff (n r : St) : tinyB n r = true ↔ bits.fitR 16 n.seq r.seq 4 1 = true ∧ n.stride = r.stride ∧ n.offset = r.offset ∧ n.lag = r.lag ∧ n.flags = r.flags := by
  unfold tinyB
  rw [Bool.and_eq_true, decide_eq_true_eq]
theorem shortB_iff (n r : St) : shortB n r = true ↔ bits.fitR 16 n.seq r.seq 8 1 = true ∧ bits.fitR 16 n.offset r.offset 8 128 = true ∧ bits.fitR 32 n.lag r.lag 8 128 = true ∧ n.stride = r.stride ∧ n.flags = r.flags := by
  unfold shortB
  rw [Bool.and_eq_true, Bool.and_eq_true, Bool.and_eq_true, decide_eq_true_eq, and_assoc, and_assoc]

set_option maxRecDepth 100000 in
set_option maxHeartbeats 1000000 in
theorem rtiny_any (n r : St) (w : World) (hn : n.ok) (hr : r.ok) :
    Calls Tryz.prog 83 #[.agg n.flat, .agg r.flat] w fun e w' => e = .returned (.bool (tinyB n r)) ∧ Below w.heap.size w w' := by
  obtain ⟨h1, h2, h3, h4, h5⟩ := hn
  obtain ⟨g1, g2, g3, g4, g5⟩ := hr
  unfold St.flat
  go_enter Tryz.func83, Tryz.ntmps83
  go_wp2_with (go_at_call 110; refine (rfit16 n.seq r.seq 4 1 _ (by omega) h1 g1 (by decide)).mono ?_; rintro e w' ⟨rfl, rfl⟩)
  all_goals go_ret
  all_goals refine ⟨ret_bool ?_, ((Below.refl _ _).alloc (Nat.le_refl _) _).alloc (by simp) _⟩
  all_goals first
    | (exact ((tinyB_iff n r).2 ⟨by assumption, by omega, by omega, by omega, by omega⟩).symm)
    | (symm; rw [Bool.eq_false_iff]; intro hh; obtain ⟨a1, a2, a3, a4, a5⟩ := (tinyB_iff n r).1 hh; first | omega | contradiction)

set_option maxRecDepth 100000 in
set_option maxHeartbeats 1000000 in
theorem rshort_any (n r : St) (w : World) (hn : n.ok) (hr : r.ok) :
    Calls Tryz.prog 84 #[.agg n.flat, .agg r.flat] w fun e w' => e = .returned (.bool (shortB n r)) ∧ Below w.heap.size w w' := by
  obtain ⟨h1, h2, h3, h4, h5⟩ := hn
  obtain ⟨g1, g2, g3, g4, g5⟩ := hr
  have F1 : bits.fitB 16 n.seq r.seq 8 1 = bits.fitR 16 n.seq r.seq 8 1 := fitB16 n.seq r.seq 8 1 (by omega) h1 (by decide)
  have F2 : bits.fitB 16 n.offset r.offset 8 128 = bits.fitR 16 n.offset r.offset 8 128 := fitB16 n.offset r.offset 8 128 (by omega) h3 (by decide)
  have F3 : bits.fitB 32 n.lag r.lag 8 128 = bits.fitR 32 n.lag r.lag 8 128 := fitB32 n.lag r.lag 8 128 (by omega) h4 (by decide)
  unfold St.flat
  go_enter Tryz.func84, Tryz.ntmps84
  go_wp2_with (go_at_call 110; refine (bits.rfits_any _ _ _ _ _ _ (by omega) (by omega) (by omega) (by omega) (by omega) (by omega) (by omega) (by omega) (by omega)).mono ?_; rintro e w' ⟨rfl, rfl⟩)
  all_goals go_ret
  all_goals refine ⟨ret_bool ?_, ((Below.refl _ _).alloc (Nat.le_refl _) _).alloc (by simp) _⟩
  all_goals first
    | (exact ((shortB_iff n r).2 ⟨by assumption, by assumption, by assumption, by omega, by omega⟩).symm)
    | (symm; rw [Bool.eq_false_iff]; intro hh; obtain ⟨a1, a2, a3, a4, a5⟩ := (shortB_iff n r).1 hh; first | omega | contradiction)
    | (rw [Bool.eq_iff_iff, shortB_iff]; simp only [beq_iff_eq]; constructor <;> intro hh <;> (first | omega | (refine ⟨by assumption, by assumption, by assumption, by omega, by omega⟩)))

end Go.Proofs.YtgpojbgjfibblaaGreat.texts
