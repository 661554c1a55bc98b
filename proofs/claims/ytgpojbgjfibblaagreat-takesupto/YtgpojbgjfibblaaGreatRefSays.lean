/-
  The walk of the document's frames (package gistref): says.
  Conditions stand in each theorem.
-/
import Derived.Test.YtgpojbgjfibblaaGreatRefState
namespace Go.Proofs.YtgpojbgjfibblaaGreat.texts
open Go.RowKit
set_option linter.unusedVariables false
attribute [local go_sem ↓] Go.wp_at_zero Go.wp_at_succ
attribute [local go_sem] bs_size be_length bs_append List.length_append headL_length restL_length hdrL_length

/-- a state and a packet in the two blocks that came first; nothing below has changed -/
structure InSP (w : World) (n : St) (p : Pk) (w1 : World) : Prop where
  one : w1.heap[w.heap.size]? = some (.cells n.flat 111 (0, 0))
  two : w1.heap[w.heap.size + 1]? = some (.cells p.flat 125 (0, 0))
  below : Below w.heap.size w w1
theorem InSP.start (w : World) (n : St) (p : Pk) : InSP w n p ((w.alloc (.cells n.flat 111)).alloc (.cells p.flat 125)) :=
  ⟨block_alloc (heap_alloc_new w _) _, by have := heap_alloc_new (w.alloc (.cells n.flat 111)) (.cells p.flat 125); simpa using this, ((Below.refl _ _).alloc (Nat.le_refl _) _).alloc (by simp) _⟩
theorem InSP.call {w w1 w2 : World} {p : Pk} {n : St} (h : InSP w n p w1) (hb : Below w1.heap.size w1 w2) : InSP w n p w2 :=
  ⟨block_keep h.one hb, block_keep h.two hb, keep_below h.below hb (Nat.le_of_lt (block_lt h.one))⟩
theorem InSP.drew {w w1 : World} {p : Pk} {n : St} (h : InSP w n p w1) : InSP w n p w1.drew := ⟨h.one, h.two, h.below.drew⟩
theorem InSP.out {w w1 : World} {p : Pk} {n : St} (h : InSP w n p w1) :
    w1.cell? ⟨w.heap.size, 0, none⟩ = some (.int .i64 n.seq) ∧ w1.cell? ⟨w.heap.size, 1, none⟩ = some (.int .i64 n.stride) ∧ w1.cell? ⟨w.heap.size, 2, none⟩ = some (.int .i64 n.offset) ∧ w1.cell? ⟨w.heap.size, 3, none⟩ = some (.int .i64 n.lag) ∧ w1.cell? ⟨w.heap.size, 4, none⟩ = some (.int .i64 n.flags) ∧ w1.cell? ⟨w.heap.size + 1, 0, none⟩ = some (.int .u32 p.src) ∧ w1.cell? ⟨w.heap.size + 1, 1, none⟩ = some (.int .u32 p.dst) ∧ w1.cell? ⟨w.heap.size + 1, 2, none⟩ = some (.int .u16 p.port) ∧ w1.cell? ⟨w.heap.size + 1, 3, none⟩ = some (.int .i64 p.seq) ∧ w1.cell? ⟨w.heap.size + 1, 4, none⟩ = some (.int .i64 p.time) ∧ w1.cell? ⟨w.heap.size + 1, 5, none⟩ = some (.int .i64 p.id) ∧ w1.cell? ⟨w.heap.size + 1, 6, none⟩ = some (.int .i64 p.flags) ∧ w1.cell? ⟨w.heap.size + 1, 7, none⟩ = some (.string (bs p.body)) ∧ InSP w n p w1 := by
  refine ⟨?_, ?_, ?_, ?_, ?_, ?_, ?_, ?_, ?_, ?_, ?_, ?_, ?_, h⟩
  all_goals first | (rw [block_cell h.one]; rfl) | (rw [block_cell h.two]; rfl)

theorem rchk3 (p : Pk) (w : World) : Calls Tryz.prog 87 #[.int .i64 3, .string (bs (hdrL p))] w fun e w' => e = .returned (.int .i64 (chk 3 p : Nat)) ∧ Below w.heap.size w w' := by
  have h := bits.rcheck_any 3 (bs (hdrL p)) w (by rw [bs_size, hdrL_length]; decide) (by decide)
  rw [bs_list] at h
  exact h
theorem rchk7 (p : Pk) (w : World) : Calls Tryz.prog 87 #[.int .i64 7, .string (bs (hdrL p))] w fun e w' => e = .returned (.int .i64 (chk 7 p : Nat)) ∧ Below w.heap.size w w' := by
  have h := bits.rcheck_any 7 (bs (hdrL p)) w (by rw [bs_size, hdrL_length]; decide) (by decide)
  rw [bs_list] at h
  exact h
theorem rchk8 (p : Pk) (w : World) : Calls Tryz.prog 87 #[.int .i64 8, .string (bs (hdrL p))] w fun e w' => e = .returned (.int .i64 (chk 8 p : Nat)) ∧ Below w.heap.size w w' := by
  have h := bits.rcheck_any 8 (bs (hdrL p)) w (by rw [bs_size, hdrL_length]; decide) (by decide)
  rw [bs_list] at h
  exact h

theorem be_one {a b : Int} {x : Nat} (h : a = x) : be a.toNat 1 = be x 1 := by rw [h]; rfl

set_option maxRecDepth 100000 in
set_option maxHeartbeats 4000000 in
theorem rsays_0 (turn cid : Nat) (p : Pk) (n : St) (w : World) (hp : p.ok) (hn : n.ok) (hc : cid < 8) (ht : turn < 4) (hb : p.body.length ≤ 100) :
    Calls Tryz.prog 54 #[.int .i64 0, .int .i64 turn, .int .i64 cid, .agg n.flat, .agg p.flat] w fun e w' => e = .returned (.string (bs (frameN 0 turn cid n p))) ∧ Below w.heap.size w w' := by
  obtain ⟨hn1, hn2, hn3, hn4, hn5⟩ := hn
  have HP := hide hp
  have HS := hide (InSP.start w n p)
  have c3 := chk_lt3 p
  have c7 := chk_lt7 p
  have c8 := chk_lt8 p
  clear hp
  have t1 : (n.seq : Int).tmod 16 = (n.seq : Int) % 16 := Int.tmod_eq_emod_of_nonneg (by omega)
  have t2 : IntKind.i64.wrap (16 * ((n.seq : Int) % 16)) = 16 * ((n.seq : Int) % 16) := by rw [IntKind.wrap_i64]; omega
  have t3 : IntKind.i64.wrap (2 * (chk 3 p : Int)) = 2 * (chk 3 p : Int) := by rw [IntKind.wrap_i64]; omega
  have t4 : IntKind.i64.wrap (16 * ((n.seq : Int) % 16) + 2 * (chk 3 p : Int)) = 16 * ((n.seq : Int) % 16) + 2 * (chk 3 p : Int) := by rw [IntKind.wrap_i64]; omega
  have z0 : ¬ (1 + 1 + p.body.length > 9223372036854775807) := by omega
  have z1 : ¬ (1 + (1 + p.body.length) > 9223372036854775807) := by omega
  have z2 : ¬ (2 + p.body.length > 9223372036854775807) := by omega
  unfold St.flat Pk.flat
  go_enter Tryz.func54, Tryz.ntmps54
  go_wp2_with (first
    | (go_at_call 85; refine (bytes_any _ _ _ (by omega) (by omega) (by omega) (by omega)).mono ?_; rintro e w1 ⟨rfl, hb1⟩; have K := (unhide HS).call hb1; clear HS; obtain ⟨a0, a1, a2, a3, a4, b0, b1, b2, b3, b4, b5, b6, b7, K⟩ := K.out; have HS := hide K; clear K hb1)
    | (go_at_call 86; refine (header_any p _ (unhide HP)).mono ?_; rintro e w2 ⟨rfl, hb1⟩; have K := (unhide HS).call hb1; clear HS; have HS := hide K; clear K hb1))
  have HQ := hide (unhide HS).drew
  go_region_held3 (fun w' => w'.cell? ⟨w.heap.size, 0, none⟩ = some (.int .i64 n.seq) ∧ w'.cell? ⟨w.heap.size, 1, none⟩ = some (.int .i64 n.stride) ∧ w'.cell? ⟨w.heap.size, 2, none⟩ = some (.int .i64 n.offset) ∧ w'.cell? ⟨w.heap.size, 3, none⟩ = some (.int .i64 n.lag) ∧ w'.cell? ⟨w.heap.size, 4, none⟩ = some (.int .i64 n.flags) ∧ w'.cell? ⟨w.heap.size + 1, 0, none⟩ = some (.int .u32 p.src) ∧ w'.cell? ⟨w.heap.size + 1, 1, none⟩ = some (.int .u32 p.dst) ∧ w'.cell? ⟨w.heap.size + 1, 2, none⟩ = some (.int .u16 p.port) ∧ w'.cell? ⟨w.heap.size + 1, 3, none⟩ = some (.int .i64 p.seq) ∧ w'.cell? ⟨w.heap.size + 1, 4, none⟩ = some (.int .i64 p.time) ∧ w'.cell? ⟨w.heap.size + 1, 5, none⟩ = some (.int .i64 p.id) ∧ w'.cell? ⟨w.heap.size + 1, 6, none⟩ = some (.int .i64 p.flags) ∧ w'.cell? ⟨w.heap.size + 1, 7, none⟩ = some (.string (bs p.body)) ∧ InSP w n p w')
    ((first | (exact (unhide HS).drew.out) | (exact (unhide (by assumption : Hid (InSP w n p _))).out)))
    ((first | (go_at_call 87; refine (rchk3 p _).mono ?_; rintro e w1 ⟨rfl, hbel⟩; have HQ := hide (InSP.call (unhide (by assumption : Hid (InSP w n p _))) hbel)) | (go_at_call 85; refine (bytes_any _ _ _ (by omega) (by omega) (by omega) (by omega)).mono ?_; rintro e w1 ⟨rfl, hbel⟩; have HQ := hide (InSP.call (unhide (by assumption : Hid (InSP w n p _))) hbel))))
  all_goals go_split_ands
  all_goals (have HT := hide ‹InSP w n p _›)
  all_goals go_wp2
  all_goals go_ret
  all_goals refine ⟨ret_str ?_, (unhide HT).below⟩
  all_goals (have e0 : (16 * (turn : Int) + 2 * cid).toNat = 16 * turn + 2 * cid := by omega)
  all_goals (have e1 : (16 * ((n.seq : Int) % 16) + 2 * (chk 3 p : Int)).toNat = 16 * (n.seq % 16) + 2 * chk 3 p := by omega)
  all_goals simp [frameN, toldN, e0, e1]

set_option maxRecDepth 100000 in
set_option maxHeartbeats 4000000 in
theorem rsays_1 (turn cid : Nat) (p : Pk) (n : St) (w : World) (hp : p.ok) (hn : n.ok) (hc : cid < 8) (ht : turn < 4) (hb : p.body.length ≤ 100) :
    Calls Tryz.prog 54 #[.int .i64 1, .int .i64 turn, .int .i64 cid, .agg n.flat, .agg p.flat] w fun e w' => e = .returned (.string (bs (frameN 1 turn cid n p))) ∧ Below w.heap.size w w' := by
  obtain ⟨hn1, hn2, hn3, hn4, hn5⟩ := hn
  have HP := hide hp
  have HS := hide (InSP.start w n p)
  have c3 := chk_lt3 p
  have c7 := chk_lt7 p
  have c8 := chk_lt8 p
  clear hp
  have t1 : (n.seq : Int).tmod 256 = (n.seq : Int) % 256 := Int.tmod_eq_emod_of_nonneg (by omega)
  have t2 : (n.offset : Int).tmod 256 = (n.offset : Int) % 256 := Int.tmod_eq_emod_of_nonneg (by omega)
  have t3 : (n.lag : Int).tmod 256 = (n.lag : Int) % 256 := Int.tmod_eq_emod_of_nonneg (by omega)
  have z0 : ¬ (5 + p.body.length > 9223372036854775807) := by omega
  have z1 : ¬ (1 + (4 + p.body.length) > 9223372036854775807) := by omega
  have z2 : ¬ (2 + (3 + p.body.length) > 9223372036854775807) := by omega
  have z3 : ¬ (3 + (2 + p.body.length) > 9223372036854775807) := by omega
  have z4 : ¬ (4 + (1 + p.body.length) > 9223372036854775807) := by omega
  unfold St.flat Pk.flat
  go_enter Tryz.func54, Tryz.ntmps54
  go_wp2_with (first
    | (go_at_call 85; refine (bytes_any _ _ _ (by omega) (by omega) (by omega) (by omega)).mono ?_; rintro e w1 ⟨rfl, hb1⟩; have K := (unhide HS).call hb1; clear HS; obtain ⟨a0, a1, a2, a3, a4, b0, b1, b2, b3, b4, b5, b6, b7, K⟩ := K.out; have HS := hide K; clear K hb1)
    | (go_at_call 86; refine (header_any p _ (unhide HP)).mono ?_; rintro e w2 ⟨rfl, hb1⟩; have K := (unhide HS).call hb1; clear HS; have HS := hide K; clear K hb1))
  have HQ := hide (unhide HS).drew
  go_region_held3 (fun w' => w'.cell? ⟨w.heap.size, 0, none⟩ = some (.int .i64 n.seq) ∧ w'.cell? ⟨w.heap.size, 1, none⟩ = some (.int .i64 n.stride) ∧ w'.cell? ⟨w.heap.size, 2, none⟩ = some (.int .i64 n.offset) ∧ w'.cell? ⟨w.heap.size, 3, none⟩ = some (.int .i64 n.lag) ∧ w'.cell? ⟨w.heap.size, 4, none⟩ = some (.int .i64 n.flags) ∧ w'.cell? ⟨w.heap.size + 1, 0, none⟩ = some (.int .u32 p.src) ∧ w'.cell? ⟨w.heap.size + 1, 1, none⟩ = some (.int .u32 p.dst) ∧ w'.cell? ⟨w.heap.size + 1, 2, none⟩ = some (.int .u16 p.port) ∧ w'.cell? ⟨w.heap.size + 1, 3, none⟩ = some (.int .i64 p.seq) ∧ w'.cell? ⟨w.heap.size + 1, 4, none⟩ = some (.int .i64 p.time) ∧ w'.cell? ⟨w.heap.size + 1, 5, none⟩ = some (.int .i64 p.id) ∧ w'.cell? ⟨w.heap.size + 1, 6, none⟩ = some (.int .i64 p.flags) ∧ w'.cell? ⟨w.heap.size + 1, 7, none⟩ = some (.string (bs p.body)) ∧ InSP w n p w')
    ((first | (exact (unhide HS).drew.out) | (exact (unhide (by assumption : Hid (InSP w n p _))).out)))
    ((first | (go_at_call 87; refine (rchk7 p _).mono ?_; rintro e w1 ⟨rfl, hbel⟩; have HQ := hide (InSP.call (unhide (by assumption : Hid (InSP w n p _))) hbel)) | (go_at_call 85; refine (bytes_any _ _ _ (by omega) (by omega) (by omega) (by omega)).mono ?_; rintro e w1 ⟨rfl, hbel⟩; have HQ := hide (InSP.call (unhide (by assumption : Hid (InSP w n p _))) hbel))))
  all_goals go_split_ands
  all_goals (have HT := hide ‹InSP w n p _›)
  all_goals go_wp2
  all_goals go_ret
  all_goals refine ⟨ret_str ?_, (unhide HT).below⟩
  all_goals (have e0 : (64 * (1 : Int) + 16 * (turn : Int) + 2 * cid).toNat = 64 * 1 + 16 * turn + 2 * cid := by omega)
  all_goals (have e0' : (64 + 16 * (turn : Int) + 2 * cid).toNat = 64 + 16 * turn + 2 * cid := by omega)
  all_goals (have e1 : ((n.seq : Int) % 256).toNat = n.seq % 256 := by omega)
  all_goals (have e2 : ((n.offset : Int) % 256).toNat = n.offset % 256 := by omega)
  all_goals (have e3 : ((n.lag : Int) % 256).toNat = n.lag % 256 := by omega)
  all_goals simp [frameN, toldN, e0', e1, e2, e3]

set_option maxRecDepth 100000 in
set_option maxHeartbeats 4000000 in
theorem rsays_2 (turn cid : Nat) (p : Pk) (n : St) (w : World) (hp : p.ok) (hn : n.ok) (hc : cid < 8) (ht : turn < 4) (hb : p.body.length ≤ 100) :
    Calls Tryz.prog 54 #[.int .i64 2, .int .i64 turn, .int .i64 cid, .agg n.flat, .agg p.flat] w fun e w' => e = .returned (.string (bs (frameN 2 turn cid n p))) ∧ Below w.heap.size w w' := by
  obtain ⟨hn1, hn2, hn3, hn4, hn5⟩ := hn
  have HP := hide hp
  have HS := hide (InSP.start w n p)
  have c3 := chk_lt3 p
  have c7 := chk_lt7 p
  have c8 := chk_lt8 p
  clear hp
  have z0 : ¬ (13 + p.body.length > 9223372036854775807) := by omega
  have z1 : ¬ (1 + (12 + p.body.length) > 9223372036854775807) := by omega
  have z2 : ¬ (10 + (3 + p.body.length) > 9223372036854775807) := by omega
  have z3 : ¬ (12 + (1 + p.body.length) > 9223372036854775807) := by omega
  unfold St.flat Pk.flat
  go_enter Tryz.func54, Tryz.ntmps54
  go_wp2_with (first
    | (go_at_call 85; refine (bytes_any _ _ _ (by omega) (by omega) (by omega) (by omega)).mono ?_; rintro e w1 ⟨rfl, hb1⟩; have K := (unhide HS).call hb1; clear HS; obtain ⟨a0, a1, a2, a3, a4, b0, b1, b2, b3, b4, b5, b6, b7, K⟩ := K.out; have HS := hide K; clear K hb1)
    | (go_at_call 86; refine (header_any p _ (unhide HP)).mono ?_; rintro e w2 ⟨rfl, hb1⟩; have K := (unhide HS).call hb1; clear HS; have HS := hide K; clear K hb1))
  have HQ := hide (unhide HS).drew
  go_region_held3 (fun w' => w'.cell? ⟨w.heap.size, 0, none⟩ = some (.int .i64 n.seq) ∧ w'.cell? ⟨w.heap.size, 1, none⟩ = some (.int .i64 n.stride) ∧ w'.cell? ⟨w.heap.size, 2, none⟩ = some (.int .i64 n.offset) ∧ w'.cell? ⟨w.heap.size, 3, none⟩ = some (.int .i64 n.lag) ∧ w'.cell? ⟨w.heap.size, 4, none⟩ = some (.int .i64 n.flags) ∧ w'.cell? ⟨w.heap.size + 1, 0, none⟩ = some (.int .u32 p.src) ∧ w'.cell? ⟨w.heap.size + 1, 1, none⟩ = some (.int .u32 p.dst) ∧ w'.cell? ⟨w.heap.size + 1, 2, none⟩ = some (.int .u16 p.port) ∧ w'.cell? ⟨w.heap.size + 1, 3, none⟩ = some (.int .i64 p.seq) ∧ w'.cell? ⟨w.heap.size + 1, 4, none⟩ = some (.int .i64 p.time) ∧ w'.cell? ⟨w.heap.size + 1, 5, none⟩ = some (.int .i64 p.id) ∧ w'.cell? ⟨w.heap.size + 1, 6, none⟩ = some (.int .i64 p.flags) ∧ w'.cell? ⟨w.heap.size + 1, 7, none⟩ = some (.string (bs p.body)) ∧ InSP w n p w')
    ((first | (exact (unhide HS).drew.out) | (exact (unhide (by assumption : Hid (InSP w n p _))).out)))
    ((first | (go_at_call 88; refine (rest_any p _ (unhide HP)).mono ?_; rintro e w1 ⟨rfl, hbel⟩; have HQ := hide (InSP.call (unhide (by assumption : Hid (InSP w n p _))) hbel)) | (go_at_call 87; refine (rchk8 p _).mono ?_; rintro e w1 ⟨rfl, hbel⟩; have HQ := hide (InSP.call (unhide (by assumption : Hid (InSP w n p _))) hbel)) | (go_at_call 85; refine (bytes_any _ _ _ (by omega) (by omega) (by omega) (by omega)).mono ?_; rintro e w1 ⟨rfl, hbel⟩; have HQ := hide (InSP.call (unhide (by assumption : Hid (InSP w n p _))) hbel))))
  all_goals go_split_ands
  all_goals (have HT := hide ‹InSP w n p _›)
  all_goals go_wp2
  all_goals go_ret
  all_goals refine ⟨ret_str ?_, (unhide HT).below⟩
  all_goals (have e0 : (64 * (2 : Int) + 16 * (turn : Int) + 2 * cid).toNat = 64 * 2 + 16 * turn + 2 * cid := by omega)
  all_goals (have e0' : (128 + 16 * (turn : Int) + 2 * cid).toNat = 128 + 16 * turn + 2 * cid := by omega)
  all_goals simp [frameN, toldN, e0']

set_option maxRecDepth 100000 in
set_option maxHeartbeats 4000000 in
theorem rsays_3 (turn cid : Nat) (p : Pk) (n : St) (w : World) (hp : p.ok) (hn : n.ok) (hc : cid < 8) (ht : turn < 4) (hb : p.body.length ≤ 100) :
    Calls Tryz.prog 54 #[.int .i64 3, .int .i64 turn, .int .i64 cid, .agg n.flat, .agg p.flat] w fun e w' => e = .returned (.string (bs (frameN 3 turn cid n p))) ∧ Below w.heap.size w w' := by
  obtain ⟨hn1, hn2, hn3, hn4, hn5⟩ := hn
  have HP := hide hp
  have HS := hide (InSP.start w n p)
  have c3 := chk_lt3 p
  have c7 := chk_lt7 p
  have c8 := chk_lt8 p
  clear hp
  have z0 : ¬ (23 + p.body.length > 9223372036854775807) := by omega
  have z1 : ¬ (1 + (22 + p.body.length) > 9223372036854775807) := by omega
  have z2 : ¬ (20 + (3 + p.body.length) > 9223372036854775807) := by omega
  have z3 : ¬ (22 + (1 + p.body.length) > 9223372036854775807) := by omega
  unfold St.flat Pk.flat
  go_enter Tryz.func54, Tryz.ntmps54
  go_wp2_with (first
    | (go_at_call 85; refine (bytes_any _ _ _ (by omega) (by omega) (by omega) (by omega)).mono ?_; rintro e w1 ⟨rfl, hb1⟩; have K := (unhide HS).call hb1; clear HS; obtain ⟨a0, a1, a2, a3, a4, b0, b1, b2, b3, b4, b5, b6, b7, K⟩ := K.out; have HS := hide K; clear K hb1)
    | (go_at_call 86; refine (header_any p _ (unhide HP)).mono ?_; rintro e w2 ⟨rfl, hb1⟩; have K := (unhide HS).call hb1; clear HS; have HS := hide K; clear K hb1))
  have HQ := hide (unhide HS).drew
  go_region_held3 (fun w' => w'.cell? ⟨w.heap.size, 0, none⟩ = some (.int .i64 n.seq) ∧ w'.cell? ⟨w.heap.size, 1, none⟩ = some (.int .i64 n.stride) ∧ w'.cell? ⟨w.heap.size, 2, none⟩ = some (.int .i64 n.offset) ∧ w'.cell? ⟨w.heap.size, 3, none⟩ = some (.int .i64 n.lag) ∧ w'.cell? ⟨w.heap.size, 4, none⟩ = some (.int .i64 n.flags) ∧ w'.cell? ⟨w.heap.size + 1, 0, none⟩ = some (.int .u32 p.src) ∧ w'.cell? ⟨w.heap.size + 1, 1, none⟩ = some (.int .u32 p.dst) ∧ w'.cell? ⟨w.heap.size + 1, 2, none⟩ = some (.int .u16 p.port) ∧ w'.cell? ⟨w.heap.size + 1, 3, none⟩ = some (.int .i64 p.seq) ∧ w'.cell? ⟨w.heap.size + 1, 4, none⟩ = some (.int .i64 p.time) ∧ w'.cell? ⟨w.heap.size + 1, 5, none⟩ = some (.int .i64 p.id) ∧ w'.cell? ⟨w.heap.size + 1, 6, none⟩ = some (.int .i64 p.flags) ∧ w'.cell? ⟨w.heap.size + 1, 7, none⟩ = some (.string (bs p.body)) ∧ InSP w n p w')
    ((first | (exact (unhide HS).drew.out) | (exact (unhide (by assumption : Hid (InSP w n p _))).out)))
    ((first | (go_at_call 87; refine (rchk8 p _).mono ?_; rintro e w1 ⟨rfl, hbel⟩; have HQ := hide (InSP.call (unhide (by assumption : Hid (InSP w n p _))) hbel)) | (go_at_call 85; refine (bytes_any _ _ _ (by omega) (by omega) (by omega) (by omega)).mono ?_; rintro e w1 ⟨rfl, hbel⟩; have HQ := hide (InSP.call (unhide (by assumption : Hid (InSP w n p _))) hbel))))
  all_goals go_split_ands
  all_goals (have HT := hide ‹InSP w n p _›)
  all_goals go_wp2
  all_goals go_ret
  all_goals refine ⟨ret_str ?_, (unhide HT).below⟩
  all_goals (have e0 : (64 * (3 : Int) + 16 * (turn : Int) + 2 * cid).toNat = 64 * 3 + 16 * turn + 2 * cid := by omega)
  all_goals (have e0' : (192 + 16 * (turn : Int) + 2 * cid).toNat = 192 + 16 * turn + 2 * cid := by omega)
  all_goals simp [frameN, toldN, e0']

end Go.Proofs.YtgpojbgjfibblaaGreat.texts
