/-
  The walks of the program's receiver (package receiver): seqAfter, afterTiny, afterShort, asks, feedback; Right (package frame); Packet (package state).
  Conditions stand in each theorem.
-/
import Derived.Test.YtgpojbgjfibblabGreatFrTake
namespace Go.Proofs.YtgpojbgjfibblabGreat.texts
open Go.RowKit
set_option linter.unusedVariables false
attribute [local go_sem ↓] Go.wp_at_zero Go.wp_at_succ
attribute [local go_sem] bs_size be_length bs_append List.length_append

theorem seqAfterN_eq (a k b : Nat) : ((seqAfterN a k b : Nat) : Int) = bits.lowR 16 k a 1 b := by
  have := lowR16_bd k a 1 b
  unfold seqAfterN
  omega
set_option maxRecDepth 100000 in
set_option maxHeartbeats 1000000 in
theorem seqAfter_any (a k b : Nat) (w : World) (ha : a < 65536) (hb : b < 65536) :
    Calls Tryz.prog 128 #[.int .u16 a, .int .i64 k, .int .u16 b] w fun e w' => e = .returned (.int .u16 (seqAfterN a k b : Nat)) ∧ w' = w := by
  rw [seqAfterN_eq]
  go_enter Tryz.func128, Tryz.ntmps128
  go_wp2_with (go_at_call 129; refine (bits.low16_in _ _ _ _ _ (by omega) (by omega) (by omega) (by omega) (by omega) (by omega)).mono ?_; rintro e w' ⟨rfl, rfl⟩)
  go_ret
  exact ⟨rfl, rfl⟩

set_option maxRecDepth 100000 in
set_option maxHeartbeats 1000000 in
theorem afterTiny_any (a b : St) (w : World) (ha : a.ok) (hb : b.ok) :
    Calls Tryz.prog 114 #[.agg a.cells, .agg b.cells] w fun e w' => e = .returned (.agg (afterTinyN a b).cells) ∧ Below w.heap.size w w' := by
  have h1 := ha.seq
  have h2 := hb.seq
  have e : (afterTinyN a b).cells = #[.int .u16 (seqAfterN a.seq 4 b.seq : Nat), .int .u16 a.stride, .int .u16 a.offset, .int .u32 a.lag, .int .u8 a.flags] := rfl
  rw [e]
  unfold St.cells
  clear e ha hb
  go_enter Tryz.func114, Tryz.ntmps114
  go_wp2_with (go_at_call 128; refine (seqAfter_any a.seq 4 b.seq _ h1 h2).mono ?_; rintro e w' ⟨rfl, rfl⟩)
  refine bodyPost_ret (v := .agg #[.int .u16 (seqAfterN a.seq 4 b.seq : Nat), .int .u16 a.stride, .int .u16 a.offset, .int .u32 a.lag, .int .u8 a.flags]) ?_ rfl ⟨rfl, (((Below.refl _ _).alloc (Nat.le_refl _) _).alloc (by simp) _).alloc (by simp; omega) _⟩
  simp [results, Tryz.results114, go_sem]

set_option maxRecDepth 100000 in
set_option maxHeartbeats 1000000 in
theorem afterShort_any (a b : St) (w : World) (ha : a.ok) (hb : b.ok) :
    Calls Tryz.prog 113 #[.agg a.cells, .agg b.cells] w fun e w' => e = .returned (.agg (afterShortN a b).cells) ∧ Below w.heap.size w w' := by
  have h1 := ha.seq
  have h2 := hb.seq
  have h3 := ha.offset
  have h4 := hb.offset
  have h5 := ha.lag
  have h6 := hb.lag
  have b1 := lowR16_bd 8 a.offset 128 b.offset
  have b2 := lowR32_bd 8 a.lag 128 b.lag
  obtain ⟨O, hO⟩ : ∃ O : Nat, (O : Int) = bits.lowR 16 8 a.offset 128 b.offset := ⟨(bits.lowR 16 8 a.offset 128 b.offset).toNat, by omega⟩
  obtain ⟨L, hL⟩ : ∃ L : Nat, (L : Int) = bits.lowR 32 8 a.lag 128 b.lag := ⟨(bits.lowR 32 8 a.lag 128 b.lag).toNat, by omega⟩
  have e : (afterShortN a b).cells = #[.int .u16 (seqAfterN a.seq 8 b.seq : Nat), .int .u16 a.stride, .int .u16 O, .int .u32 L, .int .u8 a.flags] := by
    unfold afterShortN St.cells
    simp only [← hO, ← hL, Int.toNat_natCast]
  rw [e]
  have HO := hide hO
  have HL := hide hL
  unfold St.cells
  clear e ha hb b1 b2 hO hL
  go_enter Tryz.func113, Tryz.ntmps113
  go_wp2_with (first
    | (go_at_call 128; refine (seqAfter_any a.seq 8 b.seq _ h1 h2).mono ?_; rintro e w' ⟨rfl, rfl⟩)
    | (go_at_call 129; refine (bits.low16_in _ _ _ _ _ (by omega) (by omega) (by omega) (by omega) (by omega) (by omega)).mono ?_; rintro e w' ⟨rfl, rfl⟩; rw [← unhide HO])
    | (go_at_call 130; refine (bits.low32_in _ _ _ _ _ (by omega) (by omega) (by omega) (by omega) (by omega) (by omega)).mono ?_; rintro e w' ⟨rfl, rfl⟩; rw [← unhide HL]))
  refine bodyPost_ret (v := .agg #[.int .u16 (seqAfterN a.seq 8 b.seq : Nat), .int .u16 a.stride, .int .u16 O, .int .u32 L, .int .u8 a.flags]) ?_ rfl ⟨rfl, (((Below.refl _ _).alloc (Nat.le_refl _) _).alloc (by simp) _).alloc (by simp; omega) _⟩
  simp [results, Tryz.results113, go_sem]

set_option maxRecDepth 100000 in
set_option maxHeartbeats 1000000 in
theorem asks_any (e m : Nat) (w : World) (he : e < 11) (hm : m < 256) :
    Calls Tryz.prog 116 #[.int .i64 e, .int .u8 m] w fun r w' => r = .returned (.string (bs (letterN e m))) ∧ w' = w := by
  have hr : ((m : Int).tmod 4) = ((m % 4 : Nat) : Int) := by rw [Int.tmod_eq_emod_of_nonneg (by omega)]; omega
  obtain ⟨q, hq⟩ : ∃ q, q = m % 4 := ⟨_, rfl⟩
  have hq4 : q < 4 := by omega
  have hl : letterN e m = if e = 8 then (if q = 1 then [83] else []) else if q = 2 then [68] else if q = 0 then [83] else [] := by unfold letterN; rw [hq]
  have hr2 : (m : Int) % 4 = (q : Int) := by omega
  rw [hl]
  rw [← hq] at hr
  clear hl hq
  by_cases h8 : e = 8
  · subst h8
    by_cases h1 : q = 1
    · subst h1
      go_enter Tryz.func116, Tryz.ntmps116
      go_wp2
      go_ret
      exact ⟨rfl, rfl⟩
    · have hb : ((q : Int) == 1) = false := by rw [beq_eq_false_iff_ne]; omega
      simp only [if_neg h1]
      go_enter Tryz.func116, Tryz.ntmps116
      go_wp2
      go_ret
      exact ⟨rfl, rfl⟩
  · have hb8 : ((e : Int) == 8) = false := by rw [beq_eq_false_iff_ne]; omega
    simp only [if_neg h8]
    obtain rfl | rfl | rfl | rfl : q = 0 ∨ q = 1 ∨ q = 2 ∨ q = 3 := by omega
    all_goals
      go_enter Tryz.func116, Tryz.ntmps116
      go_wp2
      go_ret
      exact ⟨rfl, rfl⟩

set_option maxRecDepth 100000 in
set_option maxHeartbeats 1000000 in
theorem feedback_any (e m cid : Nat) (w : World) (he : e < 11) (hm : m < 256) (hc : cid < 8) :
    Calls Tryz.prog 91 #[.int .i64 e, .int .u8 m, .int .u8 cid] w fun r w' => r = .returned (.string (bs (feedN e m cid))) ∧ Below w.heap.size w w' := by
  have hlen : (letterN e m).length ≤ 1 := by
    unfold letterN
    split
    · split <;> simp
    · split
      · simp
      · split <;> simp
  obtain ⟨L, hL⟩ : ∃ L, L = letterN e m := ⟨_, rfl⟩
  have hf : feedN e m cid = if L = [] then [] else L ++ be cid 1 := by unfold feedN; rw [hL]
  rw [← hL] at hlen
  rw [hf]
  have HL := hide hL
  clear hf hL
  by_cases h0 : L = []
  · subst h0
    rw [if_pos rfl]
    have hem : (bs []).toList.isEmpty = true := by rw [bs_toList]; rfl
    go_enter Tryz.func91, Tryz.ntmps91
    go_wp2_with (go_at_call 116; refine (asks_any e m _ he hm).mono ?_; rintro r w' ⟨rfl, rfl⟩; rw [← unhide HL])
    go_ret
    exact ⟨rfl, Below.refl _ _⟩
  · rw [if_neg h0]
    have hne : (bs L).toList.isEmpty = false := by
      rw [bs_toList]
      cases L with
      | nil => exact absurd rfl h0
      | cons a l => rfl
    clear h0
    go_enter Tryz.func91, Tryz.ntmps91
    go_wp2_with (first | (go_at_call 116; refine (asks_any e m _ he hm).mono ?_; rintro r w' ⟨rfl, rfl⟩; rw [← unhide HL]) | (go_at_call 105; refine (text8_any _ _ (by omega) (by omega)).mono ?_; rintro e w1 ⟨rfl, hb1⟩; have HB := hide hb1; clear hb1))
    go_ret
    exact ⟨ret_str (by simp), unhide HB⟩

/-- a frame and a packet in the blocks that came first -/
structure InQ (w : World) (f : Fr) (p : Pk) (w1 : World) : Prop where
  one : w1.heap[w.heap.size]? = some (.cells f.cells 168 (0, 0))
  two : w1.heap[w.heap.size + 1]? = some (.cells p.cells 43 (0, 0))
  below : Below w.heap.size w w1
theorem InQ.start (w : World) (f : Fr) (p : Pk) : InQ w f p ((w.alloc (.cells f.cells 168)).alloc (.cells p.cells 43)) :=
  ⟨block_alloc (heap_alloc_new w _) _, by have := heap_alloc_new (w.alloc (.cells f.cells 168)) (.cells p.cells 43); simpa using this, ((Below.refl _ _).alloc (Nat.le_refl _) _).alloc (by simp) _⟩
theorem InQ.call {w w1 w2 : World} {f : Fr} {p : Pk} (h : InQ w f p w1) (hb : Below w1.heap.size w1 w2) : InQ w f p w2 :=
  ⟨block_keep h.one hb, block_keep h.two hb, keep_below h.below hb (Nat.le_of_lt (block_lt h.one))⟩
theorem InQ.drew {w w1 : World} {f : Fr} {p : Pk} (h : InQ w f p w1) : InQ w f p w1.drew := ⟨h.one, h.two, h.below.drew⟩
theorem InQ.out {w w1 : World} {f : Fr} {p : Pk} (h : InQ w f p w1) :
    w1.cell? ⟨w.heap.size, 0, none⟩ = some (.int .u8 f.kind) ∧ w1.cell? ⟨w.heap.size, 11, none⟩ = some (.int .u8 f.chk) ∧ w1.cell? ⟨w.heap.size + 1, 0, none⟩ = some (.int .u32 p.src) ∧ w1.cell? ⟨w.heap.size + 1, 1, none⟩ = some (.int .u32 p.dst) ∧ w1.cell? ⟨w.heap.size + 1, 2, none⟩ = some (.int .u16 p.port) ∧ w1.cell? ⟨w.heap.size + 1, 3, none⟩ = some (.int .u16 p.seq) ∧ w1.cell? ⟨w.heap.size + 1, 4, none⟩ = some (.int .u32 p.time) ∧ w1.cell? ⟨w.heap.size + 1, 5, none⟩ = some (.int .u16 p.id) ∧ w1.cell? ⟨w.heap.size + 1, 6, none⟩ = some (.int .u8 p.flags) ∧ w1.cell? ⟨w.heap.size + 1, 7, none⟩ = some (.string (bs p.body)) ∧ InQ w f p w1 := by
  refine ⟨?_, ?_, ?_, ?_, ?_, ?_, ?_, ?_, ?_, ?_, h⟩
  all_goals first | (rw [block_cell h.one]; rfl) | (rw [block_cell h.two]; rfl)

set_option maxRecDepth 100000 in
set_option maxHeartbeats 2000000 in
theorem right_any (f : Fr) (p : Pk) (w : World) (hf : f.kind < 4) (hp : p.ok) :
    Calls Tryz.prog 115 #[.agg f.cells, .agg p.cells] w fun e w' => e = .returned (.bool (decide (f.chk = chk (widthN f.kind) p))) ∧ Below w.heap.size w w' := by
  have HS := hide (InQ.start w f p)
  have HP := hide hp
  clear hp
  unfold Fr.cells Pk.cells
  go_enter Tryz.func115, Tryz.ntmps115
  go_wp2_with fail
  go_region_held3 (fun w' => w'.cell? ⟨w.heap.size, 0, none⟩ = some (.int .u8 f.kind) ∧ w'.cell? ⟨w.heap.size, 11, none⟩ = some (.int .u8 f.chk) ∧ w'.cell? ⟨w.heap.size + 1, 0, none⟩ = some (.int .u32 p.src) ∧ w'.cell? ⟨w.heap.size + 1, 1, none⟩ = some (.int .u32 p.dst) ∧ w'.cell? ⟨w.heap.size + 1, 2, none⟩ = some (.int .u16 p.port) ∧ w'.cell? ⟨w.heap.size + 1, 3, none⟩ = some (.int .u16 p.seq) ∧ w'.cell? ⟨w.heap.size + 1, 4, none⟩ = some (.int .u32 p.time) ∧ w'.cell? ⟨w.heap.size + 1, 5, none⟩ = some (.int .u16 p.id) ∧ w'.cell? ⟨w.heap.size + 1, 6, none⟩ = some (.int .u8 p.flags) ∧ w'.cell? ⟨w.heap.size + 1, 7, none⟩ = some (.string (bs p.body)) ∧ InQ w f p w')
    ((first | (exact (unhide HS).drew.out) | (exact (InQ.call (unhide HS).drew hbel).out) | (exact (InQ.call (by go_split_ands; assumption) hbel).out)))
    ((first
      | (go_at_call 120; refine (wheader_any p _ (unhide HP)).mono ?_; rintro e w1 ⟨rfl, hbel⟩)
      | (go_at_call 121; refine (fcheckOf_any f.kind p _ (by omega)).mono ?_; rintro e w1 ⟨rfl, rfl⟩)))
  all_goals go_split_ands
  all_goals (have HT := hide ‹InQ w f p _›)
  all_goals go_wp2
  all_goals go_ret
  all_goals refine ⟨ret_bool ?_, (unhide HT).below⟩
  all_goals (rw [Bool.eq_iff_iff, beq_iff_eq, decide_eq_true_iff]; omega)

/-- a packet is stored into a block of its own, kept whole -/
def storePk (v u : Value) : Sem Unit := Instr.storeAt 43 v u
theorem storePk_eq (v u : Value) : Instr.storeAt 43 v u = storePk v u := rfl
def PkTo (w : World) (g : Nat) : Prop := ∃ c t, w.heap[g]? = some (.cells c t (0, 0)) ∧ c.size = 8
def GoodPk (C : Array Value) : Prop := C.size = 8 ∧ C.all (·.oneCell') = true
theorem infoPk : (Tryz.prog.info? 43).map (·.size) = some 8 := by kernel_rfl
theorem run_storePk (w : World) (g : Nat) (C : Array Value) (h : PkTo w g) (hC : GoodPk C) : (storePk (.pointer (some ⟨g, 0, none⟩)) (.agg C)).run Tryz.prog w = .ok () (w.setRow g C) := by
  obtain ⟨s, t, h1, h2⟩ := h
  have h3 := run_storeVar_row (P := Tryz.prog) w g t 43 s C h1 (by rw [infoPk, hC.1]) (by rw [hC.1, h2]) hC.2
  simp only [storePk, Instr.storeAt, Instr.sureAddr, Sem.run_bind, Sem.run_pure, Result.andThen_ok, h3]
theorem Pk.cells_one (p : Pk) : p.cells.all (·.oneCell') = true := by
  refine Array.all_eq_true_iff_forall_mem.2 (fun v hv => ?_)
  simp only [Pk.cells, List.mem_toArray, List.mem_cons, List.not_mem_nil, or_false] at hv
  rcases hv with h | h | h | h | h | h | h | h <;> (subst h; rfl)
theorem Pk.good (p : Pk) : GoodPk p.cells := ⟨rfl, Pk.cells_one p⟩

end Go.Proofs.YtgpojbgjfibblabGreat.texts
