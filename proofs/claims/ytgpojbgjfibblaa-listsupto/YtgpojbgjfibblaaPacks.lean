/-
  Packets as values and as texts; the walks of the document's Rest, Header, Flatten, Packet, RouteOf, With (package gistref).
  Conditions stand in each theorem.
-/
import Derived.Test.YtgpojbgjfibblaaHeads
namespace Go.Proofs.Ytgpojbgjfibblaa.texts
open Go.RowKit
set_option linter.unusedVariables false
attribute [local go_sem ↓] Go.wp_at_zero Go.wp_at_succ
attribute [local go_sem] bs_size be_length bs_append List.length_append

/-- a packet -/
structure Pk where
  src : Nat
  dst : Nat
  port : Nat
  seq : Nat
  time : Nat
  id : Nat
  flags : Nat
  body : List UInt8

/-- its numbers have their widths -/
structure Pk.ok (p : Pk) : Prop where
  src : p.src < 4294967296
  dst : p.dst < 4294967296
  port : p.port < 65536
  seq : p.seq < 65536
  time : p.time < 4294967296
  id : p.id < 65536
  flags : p.flags < 256

/-- its cells, as api.Packet and as gistref.Flat -/
def Pk.cells (p : Pk) : Array Value := #[.int .u32 p.src, .int .u32 p.dst, .int .u16 p.port, .int .u16 p.seq, .int .u32 p.time, .int .u16 p.id, .int .u8 p.flags, .string (bs p.body)]
def Pk.flat (p : Pk) : Array Value := #[.int .u32 p.src, .int .u32 p.dst, .int .u16 p.port, .int .i64 p.seq, .int .i64 p.time, .int .i64 p.id, .int .i64 p.flags, .string (bs p.body)]

def restL (p : Pk) : List UInt8 := be p.seq 2 ++ be p.time 4 ++ be p.id 2 ++ be p.flags 1
def hdrL (p : Pk) : List UInt8 := headL p.src p.dst p.port ++ restL p
theorem headL_length (a b c : Nat) : (headL a b c).length = 10 := by simp [headL, be_length]
theorem restL_length (p : Pk) : (restL p).length = 9 := by simp [restL, be_length]
theorem hdrL_length (p : Pk) : (hdrL p).length = 19 := by simp [hdrL, headL_length, restL_length]

attribute [local go_sem] headL_length restL_length hdrL_length

set_option maxHeartbeats 1000000 in
theorem rest_any (p : Pk) (w : World) (hp : p.ok) :
    Calls Try.prog 92 #[.agg p.flat] w fun e w' => e = .returned (.string (bs (restL p))) ∧ Below w.heap.size w w' := by
  obtain ⟨h1, h2, h3, h4, h5, h6, h7⟩ := hp
  unfold Pk.flat
  go_enter Try.func92, Try.ntmps92
  go_wp2_with fail
  go_region_held3 (fun w' => w'.cell? ⟨w.heap.size, 3, none⟩ = some (.int .i64 p.seq) ∧ w'.cell? ⟨w.heap.size, 4, none⟩ = some (.int .i64 p.time) ∧ w'.cell? ⟨w.heap.size, 5, none⟩ = some (.int .i64 p.id) ∧ w'.cell? ⟨w.heap.size, 6, none⟩ = some (.int .i64 p.flags) ∧ Below w.heap.size w w' ∧ w.heap.size ≤ w'.heap.size)
    (first | (go_keep; done) | (refine ⟨by simp, by simp, by simp, by simp, ((Below.refl _ _).alloc (Nat.le_refl _) _).drew, by simp⟩) | (go_split_ands; exact ⟨keep_cell (by assumption) hbel, keep_cell (by assumption) hbel, keep_cell (by assumption) hbel, keep_cell (by assumption) hbel, keep_below (by assumption) hbel (by assumption), Nat.le_trans (by assumption) hbel.size⟩))
    ((go_at_call 58; refine (bytes_any _ _ _ (by omega) (by omega) (by omega) (by omega)).mono ?_; rintro e w' ⟨rfl, hbel⟩))
  all_goals go_split_ands
  all_goals go_wp2
  all_goals go_ret
  all_goals exact ⟨rfl, by assumption⟩

set_option maxHeartbeats 1000000 in
theorem header_any (p : Pk) (w : World) (hp : p.ok) :
    Calls Try.prog 57 #[.agg p.flat] w fun e w' => e = .returned (.string (bs (hdrL p))) ∧ Below w.heap.size w w' := by
  have Hp := hide hp
  obtain ⟨h1, h2, h3, h4, h5, h6, h7⟩ := hp
  unfold Pk.flat
  go_enter Try.func57, Try.ntmps57
  go_wp2_with fail
  go_region_held3 (fun w' => w'.cell? ⟨w.heap.size, 0, none⟩ = some (.int .u32 p.src) ∧ w'.cell? ⟨w.heap.size, 1, none⟩ = some (.int .u32 p.dst) ∧ w'.cell? ⟨w.heap.size, 2, none⟩ = some (.int .u16 p.port) ∧ w'.cell? ⟨w.heap.size, 3, none⟩ = some (.int .i64 p.seq) ∧ w'.cell? ⟨w.heap.size, 4, none⟩ = some (.int .i64 p.time) ∧ w'.cell? ⟨w.heap.size, 5, none⟩ = some (.int .i64 p.id) ∧ w'.cell? ⟨w.heap.size, 6, none⟩ = some (.int .i64 p.flags) ∧ w'.cell? ⟨w.heap.size, 7, none⟩ = some (.string (bs p.body)) ∧ Below w.heap.size w w' ∧ w.heap.size ≤ w'.heap.size)
    (first | (go_keep; done) | (refine ⟨by simp, by simp, by simp, by simp, by simp, by simp, by simp, by simp, ((Below.refl _ _).alloc (Nat.le_refl _) _).drew, by simp⟩) | (go_split_ands; exact ⟨keep_cell (by assumption) hbel, keep_cell (by assumption) hbel, keep_cell (by assumption) hbel, keep_cell (by assumption) hbel, keep_cell (by assumption) hbel, keep_cell (by assumption) hbel, keep_cell (by assumption) hbel, keep_cell (by assumption) hbel, keep_below (by assumption) hbel (by assumption), Nat.le_trans (by assumption) hbel.size⟩))
    ((first | (go_at_call 91; refine (head_any _ _ _ _ (by omega) (by omega) (by omega) (by omega) (by omega) (by omega)).mono ?_; rintro e w' ⟨rfl, hbel⟩) | (go_at_call 92; refine (rest_any p _ (unhide Hp)).mono ?_; rintro e w' ⟨rfl, hbel⟩)))
  all_goals go_split_ands
  all_goals go_wp2
  all_goals go_ret
  all_goals exact ⟨rfl, by assumption⟩

set_option maxHeartbeats 1000000 in
theorem flatten_any (p : Pk) (w : World) (hp : p.ok) :
    Calls Try.prog 56 #[.agg p.cells] w fun e w' => e = .returned (.agg p.flat) ∧ Below w.heap.size w w' := by
  obtain ⟨h1, h2, h3, h4, h5, h6, h7⟩ := hp
  unfold Pk.cells Pk.flat
  go_enter Try.func56, Try.ntmps56
  go_wp2
  exact bodyPost_ret (v := .agg p.flat) (by simp [results, Try.results56, go_sem, Pk.flat]) rfl ⟨rfl, ((Below.refl _ _).alloc (Nat.le_refl _) _).alloc (by simp) _⟩

theorem wrap16 {n : Nat} (h : n < 65536) : IntKind.u16.wrap (n : Int) = n := by rw [IntKind.wrap_u16]; omega
theorem wrap8 {n : Nat} (h : n < 256) : IntKind.u8.wrap (n : Int) = n := by rw [IntKind.wrap_u8']; omega

set_option maxHeartbeats 1000000 in
theorem packet_any (p : Pk) (w : World) (hp : p.ok) :
    Calls Try.prog 62 #[.agg p.flat] w fun e w' => e = .returned (.agg p.cells) ∧ Below w.heap.size w w' := by
  obtain ⟨h1, h2, h3, h4, h5, h6, h7⟩ := hp
  have e1 := wrap16 h4
  have e2 := wrap16 h6
  have e3 := wrap8 h7
  unfold Pk.cells Pk.flat
  go_enter Try.func62, Try.ntmps62
  go_wp2
  exact bodyPost_ret (v := .agg p.cells) (by simp [results, Try.results62, go_sem, Pk.cells]) rfl ⟨rfl, ((Below.refl _ _).alloc (Nat.le_refl _) _).alloc (by simp) _⟩


end Go.Proofs.Ytgpojbgjfibblaa.texts
