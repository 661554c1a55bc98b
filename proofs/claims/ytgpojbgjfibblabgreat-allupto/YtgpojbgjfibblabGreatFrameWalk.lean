/-
  The walks of the program's frames (package frame): width, checkOf, told, Make.
  Conditions stand in each theorem.
-/
import Derived.Test.YtgpojbgjfibblabGreatCtxSent
namespace Go.Proofs.YtgpojbgjfibblabGreat.texts
open Go.RowKit
set_option linter.unusedVariables false
attribute [local go_sem ↓] Go.wp_at_zero Go.wp_at_succ
attribute [local go_sem] bs_size be_length bs_append List.length_append headL_length restL_length hdrL_length

theorem chk_lt3 (p : Pk) : chk 3 p < 8 := bits.checkOf_lt 3 _ (by decide)
theorem chk_lt7 (p : Pk) : chk 7 p < 128 := bits.checkOf_lt 7 _ (by decide)
theorem chk_lt8 (p : Pk) : chk 8 p < 256 := bits.checkOf_lt 8 _ (by decide)
theorem crc_is3 (p : Pk) : bits.crcR 3 (bs (hdrL p)).data.toList = (chk 3 p : Nat) := by rw [bs_list]; rfl
theorem crc_is7 (p : Pk) : bits.crcR 7 (bs (hdrL p)).data.toList = (chk 7 p : Nat) := by rw [bs_list]; rfl
theorem crc_is8 (p : Pk) : bits.crcR 8 (bs (hdrL p)).data.toList = (chk 8 p : Nat) := by rw [bs_list]; rfl
theorem hdr_small (p : Pk) : (bs (hdrL p)).size ≤ maxLen := by rw [bs_size, hdrL_length]; decide

/-- the width of the check of a kind -/
def widthN (kind : Nat) : Nat := if kind = 0 then 3 else if kind = 1 then 7 else 8
theorem widthN_cases (kind : Nat) : widthN kind = 3 ∨ widthN kind = 7 ∨ widthN kind = 8 := by
  unfold widthN
  by_cases h : kind = 0
  · rw [if_pos h]; exact Or.inl rfl
  · rw [if_neg h]
    by_cases h1 : kind = 1
    · rw [if_pos h1]; exact Or.inr (Or.inl rfl)
    · rw [if_neg h1]; exact Or.inr (Or.inr rfl)
theorem chk_lt (kind : Nat) (p : Pk) : chk (widthN kind) p < 256 := by
  have a := chk_lt3 p
  have b := chk_lt7 p
  have c := chk_lt8 p
  rcases widthN_cases kind with h | h | h <;> rw [h] <;> omega

set_option maxRecDepth 100000 in
set_option maxHeartbeats 1000000 in
theorem fwidth_any (kind : Nat) (w : World) (hk : kind ≤ 3) :
    Calls Tryz.prog 135 #[.int .u8 kind] w fun e w' => e = .returned (.int .i64 (widthN kind : Nat)) ∧ w' = w := by
  obtain rfl | rfl | rfl | rfl : kind = 0 ∨ kind = 1 ∨ kind = 2 ∨ kind = 3 := by omega
  all_goals go_enter Tryz.func135, Tryz.ntmps135
  all_goals go_wp2
  all_goals go_ret
  all_goals simp [widthN]

theorem crc_is (kind : Nat) (p : Pk) : bits.crcR (widthN kind : Nat) (bs (hdrL p)).data.toList = (chk (widthN kind) p : Nat) := by
  have a := crc_is3 p
  have b := crc_is7 p
  have c := crc_is8 p
  rcases widthN_cases kind with h | h | h
  · rw [h]; exact a
  · rw [h]; exact b
  · rw [h]; exact c

set_option maxRecDepth 100000 in
set_option maxHeartbeats 1000000 in
theorem fcheckOf_any (kind : Nat) (p : Pk) (w : World) (hk : kind ≤ 3) :
    Calls Tryz.prog 121 #[.int .u8 kind, .string (bs (hdrL p))] w fun e w' => e = .returned (.int .u8 (chk (widthN kind) p : Nat)) ∧ w' = w := by
  have h := chk_lt kind p
  go_enter Tryz.func121, Tryz.ntmps121
  go_wp2_with (first | (go_at_call 135; refine (fwidth_any kind _ hk).mono ?_; rintro e w' ⟨rfl, rfl⟩) | (go_at_call 134; refine (bits.ccrc_any _ _ _ (hdr_small p)).mono ?_; rintro e w' ⟨rfl, rfl⟩; rw [crc_is]))
  go_ret
  exact ⟨by simp, rfl⟩

theorem low8 (n : Nat) : IntKind.u8.wrap (n : Int) = ((n % 256 : Nat) : Int) := by rw [IntKind.wrap_u8']; omega
theorem or_tiny_fin : ∀ r : Fin 16, ∀ k : Fin 8, Go.bits BinOp.or IntKind.u8 (16 * (r.val : Int)) ((k.val : Int) * 2) = 16 * (r.val : Int) + 2 * k.val := by decide
theorem or_tiny (q k : Nat) (hk : k < 8) : Go.bits BinOp.or IntKind.u8 ((q : Int) % 256 * 16 % 256) ((k : Int) * 2) = ((16 * (q % 16) + 2 * k : Nat) : Int) := by
  have h := or_tiny_fin ⟨q % 16, by omega⟩ ⟨k, hk⟩
  rw [show (q : Int) % 256 * 16 % 256 = 16 * ((q % 16 : Nat) : Int) by omega]
  simp only at h
  rw [h]
  omega
theorem or_first_fin : ∀ d : Fin 4, ∀ t : Fin 4, ∀ c : Fin 8, Go.bits BinOp.or IntKind.u8 (Go.bits BinOp.or IntKind.u8 ((d.val : Int) * 64) ((t.val : Int) * 16)) ((c.val : Int) * 2) = 64 * (d.val : Int) + 16 * t.val + 2 * c.val := by decide
theorem or_first (d t c : Nat) (hd : d < 4) (ht : t < 4) (hc : c < 8) : Go.bits BinOp.or IntKind.u8 (Go.bits BinOp.or IntKind.u8 ((d : Int) * 64) ((t : Int) * 16)) ((c : Int) * 2) = ((64 * d + 16 * t + 2 * c : Nat) : Int) := by
  have h := or_first_fin ⟨d, hd⟩ ⟨t, ht⟩ ⟨c, hc⟩
  simp only at h
  rw [h]
  omega

/-- a packet and a state in the two blocks that came first; nothing below has changed -/
structure InPS (w : World) (p : Pk) (n : St) (w1 : World) : Prop where
  one : w1.heap[w.heap.size]? = some (.cells p.cells 43 (0, 0))
  two : w1.heap[w.heap.size + 1]? = some (.cells n.cells 72 (0, 0))
  below : Below w.heap.size w w1
theorem InPS.start (w : World) (p : Pk) (n : St) : InPS w p n ((w.alloc (.cells p.cells 43)).alloc (.cells n.cells 72)) :=
  ⟨block_alloc (heap_alloc_new w _) _, by have := heap_alloc_new (w.alloc (.cells p.cells 43)) (.cells n.cells 72); simpa using this, ((Below.refl _ _).alloc (Nat.le_refl _) _).alloc (by simp) _⟩
theorem InPS.call {w w1 w2 : World} {p : Pk} {n : St} (h : InPS w p n w1) (hb : Below w1.heap.size w1 w2) : InPS w p n w2 :=
  ⟨block_keep h.one hb, block_keep h.two hb, keep_below h.below hb (Nat.le_of_lt (block_lt h.one))⟩
theorem InPS.drew {w w1 : World} {p : Pk} {n : St} (h : InPS w p n w1) : InPS w p n w1.drew := ⟨h.one, h.two, h.below.drew⟩
theorem InPS.out {w w1 : World} {p : Pk} {n : St} (h : InPS w p n w1) :
    w1.cell? ⟨w.heap.size, 0, none⟩ = some (.int .u32 p.src) ∧ w1.cell? ⟨w.heap.size, 1, none⟩ = some (.int .u32 p.dst) ∧ w1.cell? ⟨w.heap.size, 2, none⟩ = some (.int .u16 p.port) ∧ w1.cell? ⟨w.heap.size, 3, none⟩ = some (.int .u16 p.seq) ∧ w1.cell? ⟨w.heap.size, 4, none⟩ = some (.int .u32 p.time) ∧ w1.cell? ⟨w.heap.size, 5, none⟩ = some (.int .u16 p.id) ∧ w1.cell? ⟨w.heap.size, 6, none⟩ = some (.int .u8 p.flags) ∧ w1.cell? ⟨w.heap.size, 7, none⟩ = some (.string (bs p.body)) ∧ w1.cell? ⟨w.heap.size + 1, 0, none⟩ = some (.int .u16 n.seq) ∧ w1.cell? ⟨w.heap.size + 1, 1, none⟩ = some (.int .u16 n.stride) ∧ w1.cell? ⟨w.heap.size + 1, 2, none⟩ = some (.int .u16 n.offset) ∧ w1.cell? ⟨w.heap.size + 1, 3, none⟩ = some (.int .u32 n.lag) ∧ w1.cell? ⟨w.heap.size + 1, 4, none⟩ = some (.int .u8 n.flags) ∧ InPS w p n w1 := by
  refine ⟨?_, ?_, ?_, ?_, ?_, ?_, ?_, ?_, ?_, ?_, ?_, ?_, ?_, h⟩
  all_goals first | (rw [block_cell h.one]; rfl) | (rw [block_cell h.two]; rfl)

set_option maxRecDepth 100000 in
set_option maxHeartbeats 2000000 in
theorem ftold_any (kind : Nat) (p : Pk) (n : St) (w : World) (hp : p.ok) (hn : n.ok) (hk : kind ≤ 3) :
    Calls Tryz.prog 106 #[.int .u8 kind, .agg p.cells, .agg n.cells] w fun e w' => e = .returned (.string (bs (toldN kind n p))) ∧ Below w.heap.size w w' := by
  obtain ⟨hn1, hn2, hn3, hn4, hn5⟩ := hn
  have HP := hide hp
  have HN := hide (show n.ok from ⟨hn1, hn2, hn3, hn4, hn5⟩)
  have HS := hide (InPS.start w p n)
  have c3 := chk_lt3 p
  have c7 := chk_lt7 p
  have c8 := chk_lt8 p
  clear hp
  obtain rfl | rfl | rfl | rfl : kind = 0 ∨ kind = 1 ∨ kind = 2 ∨ kind = 3 := by omega
  · have ho := or_tiny n.seq (chk 3 p) c3
    unfold Pk.cells St.cells
    go_enter Tryz.func106, Tryz.ntmps106
    go_wp2_with (first
      | (go_at_call 120; refine (wheader_any p _ (unhide HP)).mono ?_; rintro e w1 ⟨rfl, hb⟩; have K := (unhide HS).call hb; clear HS; obtain ⟨a0, a1, a2, a3, a4, a5, a6, a7, b0, b1, b2, b3, b4, K⟩ := K.out; have HS := hide K; clear K hb)
      | (go_at_call 121; refine (fcheckOf_any _ p _ (by decide)).mono ?_; rintro e w1 ⟨rfl, rfl⟩; simp only [widthN, reduceIte, Nat.reduceEqDiff]))
    go_wp2_with (go_at_call 105; refine (text8_any _ _ (by omega) (by omega)).mono ?_; rintro e w1 ⟨rfl, hb⟩; have K := hide ((unhide HS).call hb); clear HS; have HS := K; clear K hb)
    go_ret
    exact ⟨ret_str (by simp [toldN]; congr 2), (unhide HS).below⟩
  · have x1 := low8 n.seq
    have x2 := low8 n.offset
    have x3 := low8 n.lag
    unfold Pk.cells St.cells
    go_enter Tryz.func106, Tryz.ntmps106
    go_wp2_with (first
      | (go_at_call 120; refine (wheader_any p _ (unhide HP)).mono ?_; rintro e w1 ⟨rfl, hb⟩; have K := (unhide HS).call hb; clear HS; obtain ⟨a0, a1, a2, a3, a4, a5, a6, a7, b0, b1, b2, b3, b4, K⟩ := K.out; have HS := hide K; clear K hb)
      | (go_at_call 121; refine (fcheckOf_any _ p _ (by decide)).mono ?_; rintro e w1 ⟨rfl, rfl⟩; simp only [widthN, reduceIte, Nat.reduceEqDiff]))
    go_region_held3 (fun w' => w'.cell? ⟨w.heap.size, 0, none⟩ = some (.int .u32 p.src) ∧ w'.cell? ⟨w.heap.size, 1, none⟩ = some (.int .u32 p.dst) ∧ w'.cell? ⟨w.heap.size, 2, none⟩ = some (.int .u16 p.port) ∧ w'.cell? ⟨w.heap.size, 3, none⟩ = some (.int .u16 p.seq) ∧ w'.cell? ⟨w.heap.size, 4, none⟩ = some (.int .u32 p.time) ∧ w'.cell? ⟨w.heap.size, 5, none⟩ = some (.int .u16 p.id) ∧ w'.cell? ⟨w.heap.size, 6, none⟩ = some (.int .u8 p.flags) ∧ w'.cell? ⟨w.heap.size, 7, none⟩ = some (.string (bs p.body)) ∧ w'.cell? ⟨w.heap.size + 1, 0, none⟩ = some (.int .u16 n.seq) ∧ w'.cell? ⟨w.heap.size + 1, 1, none⟩ = some (.int .u16 n.stride) ∧ w'.cell? ⟨w.heap.size + 1, 2, none⟩ = some (.int .u16 n.offset) ∧ w'.cell? ⟨w.heap.size + 1, 3, none⟩ = some (.int .u32 n.lag) ∧ w'.cell? ⟨w.heap.size + 1, 4, none⟩ = some (.int .u8 n.flags) ∧ InPS w p n w')
      ((first | (exact (unhide HS).drew.out) | (exact (InPS.call (by go_split_ands; assumption) hbel).out)))
      ((go_at_call 105; refine (text8_any _ _ (by omega) (by omega)).mono ?_; rintro e w1 ⟨rfl, hbel⟩))
    all_goals go_split_ands
    all_goals (have HT := hide ‹InPS w p n _›)
    all_goals go_wp2_with (go_at_call 105; refine (text8_any _ _ (by omega) (by omega)).mono ?_; rintro e w1 ⟨rfl, hb⟩; have HT2 := hide ((unhide HT).call hb); clear hb)
    all_goals go_ret
    all_goals exact ⟨ret_str (by simp [toldN]), (unhide HT2).below⟩
  · unfold Pk.cells St.cells
    go_enter Tryz.func106, Tryz.ntmps106
    go_wp2_with (first
      | (go_at_call 120; refine (wheader_any p _ (unhide HP)).mono ?_; rintro e w1 ⟨rfl, hb⟩; have K := (unhide HS).call hb; clear HS; obtain ⟨a0, a1, a2, a3, a4, a5, a6, a7, b0, b1, b2, b3, b4, K⟩ := K.out; have HS := hide K; clear K hb)
      | (go_at_call 121; refine (fcheckOf_any _ p _ (by decide)).mono ?_; rintro e w1 ⟨rfl, rfl⟩; simp only [widthN, reduceIte, Nat.reduceEqDiff]))
    go_region_held3 (fun w' => w'.cell? ⟨w.heap.size, 0, none⟩ = some (.int .u32 p.src) ∧ w'.cell? ⟨w.heap.size, 1, none⟩ = some (.int .u32 p.dst) ∧ w'.cell? ⟨w.heap.size, 2, none⟩ = some (.int .u16 p.port) ∧ w'.cell? ⟨w.heap.size, 3, none⟩ = some (.int .u16 p.seq) ∧ w'.cell? ⟨w.heap.size, 4, none⟩ = some (.int .u32 p.time) ∧ w'.cell? ⟨w.heap.size, 5, none⟩ = some (.int .u16 p.id) ∧ w'.cell? ⟨w.heap.size, 6, none⟩ = some (.int .u8 p.flags) ∧ w'.cell? ⟨w.heap.size, 7, none⟩ = some (.string (bs p.body)) ∧ w'.cell? ⟨w.heap.size + 1, 0, none⟩ = some (.int .u16 n.seq) ∧ w'.cell? ⟨w.heap.size + 1, 1, none⟩ = some (.int .u16 n.stride) ∧ w'.cell? ⟨w.heap.size + 1, 2, none⟩ = some (.int .u16 n.offset) ∧ w'.cell? ⟨w.heap.size + 1, 3, none⟩ = some (.int .u32 n.lag) ∧ w'.cell? ⟨w.heap.size + 1, 4, none⟩ = some (.int .u8 n.flags) ∧ InPS w p n w')
      ((first | (exact (unhide HS).drew.out) | (exact (InPS.call (by go_split_ands; assumption) hbel).out)))
      ((first | (go_at_call 123; refine (wfields_any p _ (unhide HP)).mono ?_; rintro e w1 ⟨rfl, hbel⟩) | (go_at_call 122; refine (text16_any _ _ (by omega) (by omega)).mono ?_; rintro e w1 ⟨rfl, hbel⟩) | (go_at_call 105; refine (text8_any _ _ (by omega) (by omega)).mono ?_; rintro e w1 ⟨rfl, hbel⟩)))
    all_goals go_split_ands
    all_goals (have HT := hide ‹InPS w p n _›)
    all_goals go_wp2
    all_goals go_ret
    all_goals exact ⟨ret_str (by simp [toldN]), (unhide HT).below⟩
  · unfold Pk.cells St.cells
    go_enter Tryz.func106, Tryz.ntmps106
    go_wp2_with (first
      | (go_at_call 120; refine (wheader_any p _ (unhide HP)).mono ?_; rintro e w1 ⟨rfl, hb⟩; have K := (unhide HS).call hb; clear HS; obtain ⟨a0, a1, a2, a3, a4, a5, a6, a7, b0, b1, b2, b3, b4, K⟩ := K.out; have HS := hide K; clear K hb)
      | (go_at_call 121; refine (fcheckOf_any _ p _ (by decide)).mono ?_; rintro e w1 ⟨rfl, rfl⟩; simp only [widthN, reduceIte, Nat.reduceEqDiff]))
    go_wp2_with (first | (go_at_call 122; refine (text16_any _ _ (by omega) (by omega)).mono ?_; rintro e w1 ⟨rfl, hb⟩; have K := hide ((unhide HS).call hb); clear HS; have HS := K; clear K hb) | (go_at_call 105; refine (text8_any _ _ (by omega) (by omega)).mono ?_; rintro e w1 ⟨rfl, hb⟩; have K := hide ((unhide HS).call hb); clear HS; have HS := K; clear K hb))
    go_ret
    exact ⟨ret_str (by simp [toldN]), (unhide HS).below⟩

/-- a place, a packet and a state in the three blocks that came first -/
structure InMake (w : World) (cid turn : Nat) (p : Pk) (n : St) (w1 : World) : Prop where
  zero : w1.heap[w.heap.size]? = some (.cells #[.int .u8 cid, .int .u8 turn] 158 (0, 0))
  one : w1.heap[w.heap.size + 1]? = some (.cells p.cells 43 (0, 0))
  two : w1.heap[w.heap.size + 1 + 1]? = some (.cells n.cells 72 (0, 0))
  below : Below w.heap.size w w1
theorem InMake.start (w : World) (cid turn : Nat) (p : Pk) (n : St) : InMake w cid turn p n (((w.alloc (.cells #[.int .u8 cid, .int .u8 turn] 158)).alloc (.cells p.cells 43)).alloc (.cells n.cells 72)) :=
  ⟨block_alloc (block_alloc (heap_alloc_new w _) _) _, second_alloc w _ _ _, third_alloc w _ _ _, (((Below.refl _ _).alloc (Nat.le_refl _) _).alloc (by simp) _).alloc (by simp; omega) _⟩
theorem InMake.call {w w1 w2 : World} {cid turn : Nat} {p : Pk} {n : St} (h : InMake w cid turn p n w1) (hb : Below w1.heap.size w1 w2) : InMake w cid turn p n w2 :=
  ⟨block_keep h.zero hb, block_keep h.one hb, block_keep h.two hb, keep_below h.below hb (Nat.le_of_lt (block_lt h.zero))⟩
theorem InMake.drew {w w1 : World} {cid turn : Nat} {p : Pk} {n : St} (h : InMake w cid turn p n w1) : InMake w cid turn p n w1.drew := ⟨h.zero, h.one, h.two, h.below.drew⟩
theorem InMake.out {w w1 : World} {cid turn : Nat} {p : Pk} {n : St} (h : InMake w cid turn p n w1) :
    w1.cell? ⟨w.heap.size + 1, 0, none⟩ = some (.int .u32 p.src) ∧ w1.cell? ⟨w.heap.size + 1, 1, none⟩ = some (.int .u32 p.dst) ∧ w1.cell? ⟨w.heap.size + 1, 2, none⟩ = some (.int .u16 p.port) ∧ w1.cell? ⟨w.heap.size + 1, 3, none⟩ = some (.int .u16 p.seq) ∧ w1.cell? ⟨w.heap.size + 1, 4, none⟩ = some (.int .u32 p.time) ∧ w1.cell? ⟨w.heap.size + 1, 5, none⟩ = some (.int .u16 p.id) ∧ w1.cell? ⟨w.heap.size + 1, 6, none⟩ = some (.int .u8 p.flags) ∧ w1.cell? ⟨w.heap.size + 1, 7, none⟩ = some (.string (bs p.body)) ∧ w1.cell? ⟨w.heap.size + 1 + 1, 0, none⟩ = some (.int .u16 n.seq) ∧ w1.cell? ⟨w.heap.size + 1 + 1, 1, none⟩ = some (.int .u16 n.stride) ∧ w1.cell? ⟨w.heap.size + 1 + 1, 2, none⟩ = some (.int .u16 n.offset) ∧ w1.cell? ⟨w.heap.size + 1 + 1, 3, none⟩ = some (.int .u32 n.lag) ∧ w1.cell? ⟨w.heap.size + 1 + 1, 4, none⟩ = some (.int .u8 n.flags) ∧ InMake w cid turn p n w1 := by
  refine ⟨?_, ?_, ?_, ?_, ?_, ?_, ?_, ?_, ?_, ?_, ?_, ?_, ?_, h⟩
  all_goals first | (rw [block_cell h.one]; rfl) | (rw [block_cell h.two]; rfl)

theorem toldN_length (kind : Nat) (n : St) (p : Pk) : (toldN kind n p).length ≤ 22 := by
  unfold toldN
  repeat' split
  all_goals simp [be_length, hdrL_length, restL_length]

set_option maxRecDepth 100000 in
set_option maxHeartbeats 2000000 in
theorem fmake_any (kind cid turn : Nat) (p : Pk) (n : St) (w : World) (hp : p.ok) (hn : n.ok) (hk : kind ≤ 3) (hc : cid < 8) (ht : turn < 4) (hb : p.body.length ≤ 100) :
    Calls Tryz.prog 75 #[.int .u8 kind, .agg #[.int .u8 cid, .int .u8 turn], .agg p.cells, .agg n.cells] w fun e w' => e = .returned (.string (bs (frameN kind turn cid n p))) ∧ Below w.heap.size w w' := by
  have ho := or_first kind turn cid (by omega) ht hc
  have HP := hide hp
  have HN := hide hn
  have HS := hide (InMake.start w cid turn p n)
  have hl := toldN_length kind n p
  have g1 : ¬ (1 + (toldN kind n p).length > 9223372036854775807) := by omega
  have g2 : ¬ (1 + (toldN kind n p).length + p.body.length > 9223372036854775807) := by omega
  have g3 : ¬ (1 + ((toldN kind n p).length + p.body.length) > 9223372036854775807) := by omega
  clear hp hn
  unfold Pk.cells St.cells
  go_enter Tryz.func75, Tryz.ntmps75
  go_wp2_with (first
    | (go_at_call 105; refine (text8_any _ _ (by omega) (by omega)).mono ?_; rintro e w1 ⟨rfl, hb1⟩; have K := (unhide HS).call hb1; clear HS; obtain ⟨a0, a1, a2, a3, a4, a5, a6, a7, b0, b1, b2, b3, b4, K⟩ := K.out; have HS := hide K; clear K hb1))
  go_region_held3 (fun w' => w'.cell? ⟨w.heap.size + 1, 0, none⟩ = some (.int .u32 p.src) ∧ w'.cell? ⟨w.heap.size + 1, 1, none⟩ = some (.int .u32 p.dst) ∧ w'.cell? ⟨w.heap.size + 1, 2, none⟩ = some (.int .u16 p.port) ∧ w'.cell? ⟨w.heap.size + 1, 3, none⟩ = some (.int .u16 p.seq) ∧ w'.cell? ⟨w.heap.size + 1, 4, none⟩ = some (.int .u32 p.time) ∧ w'.cell? ⟨w.heap.size + 1, 5, none⟩ = some (.int .u16 p.id) ∧ w'.cell? ⟨w.heap.size + 1, 6, none⟩ = some (.int .u8 p.flags) ∧ w'.cell? ⟨w.heap.size + 1, 7, none⟩ = some (.string (bs p.body)) ∧ w'.cell? ⟨w.heap.size + 1 + 1, 0, none⟩ = some (.int .u16 n.seq) ∧ w'.cell? ⟨w.heap.size + 1 + 1, 1, none⟩ = some (.int .u16 n.stride) ∧ w'.cell? ⟨w.heap.size + 1 + 1, 2, none⟩ = some (.int .u16 n.offset) ∧ w'.cell? ⟨w.heap.size + 1 + 1, 3, none⟩ = some (.int .u32 n.lag) ∧ w'.cell? ⟨w.heap.size + 1 + 1, 4, none⟩ = some (.int .u8 n.flags) ∧ InMake w cid turn p n w')
    ((first | (exact (unhide HS).drew.out) | (exact (InMake.call (unhide HS).drew hbel).out) | (exact (InMake.call (by go_split_ands; assumption) hbel).out)))
    ((go_at_call 106; refine (ftold_any kind p n _ (unhide HP) (unhide HN) hk).mono ?_; rintro e w1 ⟨rfl, hbel⟩))
  all_goals go_split_ands
  all_goals (have HT := hide ‹InMake w cid turn p n _›)
  all_goals go_wp2
  all_goals go_ret
  all_goals exact ⟨ret_str (by have e : (64 * (kind : Int) + 16 * turn + 2 * cid).toNat = 64 * kind + 16 * turn + 2 * cid := by omega
                               simp [frameN, e]), (unhide HT).below⟩

end Go.Proofs.YtgpojbgjfibblabGreat.texts
