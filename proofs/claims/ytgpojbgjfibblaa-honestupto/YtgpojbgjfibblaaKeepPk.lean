/-
  The walk of the line's packet of a step (gistkeep).
  Conditions stand in each theorem.
-/
import Derived.Test.YtgpojbgjfibblaaKeepWalk
namespace Go.Proofs.Ytgpojbgjfibblaa.texts
open Go.RowKit
set_option linter.unusedVariables false
attribute [local go_sem ↓] Go.wp_at_zero Go.wp_at_succ
attribute [local go_sem] bs_size be_length bs_append List.length_append bs_extract bs_list

/-- the line, a step, the answer and a packet in memory -/
structure InK (w : World) (b : Nat) (m : Ln) (o : Sp) (p : Pk) (w1 : World) : Prop where
  ln : LnAt w1 b m
  st : w1.heap[w.heap.size]? = some (.cells o.cells 88 (0, 0))
  res : w1.heap[w.heap.size + 1]? = some (.cells zeroP.cells 51 (0, 0))
  pk : w1.heap[w.heap.size + 1 + 1]? = some (.cells p.cells 51 (0, 0))
  bb : b < w.heap.size
  below : Below w.heap.size w w1
theorem InK.call {w w1 w2 : World} {b : Nat} {m : Ln} {o : Sp} {p : Pk} (h : InK w b m o p w1) (hb : Below w1.heap.size w1 w2) : InK w b m o p w2 :=
  ⟨block_keep h.ln hb, block_keep h.st hb, block_keep h.res hb, block_keep h.pk hb, h.bb, keep_below h.below hb (Nat.le_of_lt (block_lt h.st))⟩
theorem InK.cell {w w1 : World} {b : Nat} {m : Ln} {o : Sp} {p : Pk} (h : InK w b m o p w1) (j : Nat) (v : Value) {p' : Pk} (hp : p.cells.setIfInBounds j v = p'.cells) : InK w b m o p' (w1.setCell ⟨w.heap.size + 1 + 1, j, none⟩ v) := by
  have hb := h.bb
  have n1 : b ≠ w.heap.size + 1 + 1 := by omega
  have n2 : w.heap.size ≠ w.heap.size + 1 + 1 := by omega
  have n3 : w.heap.size + 1 ≠ w.heap.size + 1 + 1 := by omega
  refine ⟨by rw [LnAt, Below.heap_setCell _ _ _ _ (by exact n1)]; exact h.ln, by rw [Below.heap_setCell _ _ _ _ (by exact n2)]; exact h.st, by rw [Below.heap_setCell _ _ _ _ (by exact n3)]; exact h.res, ?_, h.bb, h.below.setCell (by show w.heap.size ≤ w.heap.size + 1 + 1; omega) _⟩
  rw [heap_setCell_same w1 _ j _ _ v h.pk, hp]
theorem InK.out {w w1 : World} {b : Nat} {m : Ln} {o : Sp} {p : Pk} (h : InK w b m o p w1) :
    (w1.cell? ⟨w.heap.size, 1, none⟩ = some (.int .i64 o.how) ∧ w1.cell? ⟨w.heap.size, 2, none⟩ = some (.int .u16 o.seq) ∧ w1.cell? ⟨w.heap.size, 3, none⟩ = some (.int .u32 o.time) ∧ w1.cell? ⟨w.heap.size, 4, none⟩ = some (.int .u16 o.id) ∧ w1.cell? ⟨w.heap.size, 5, none⟩ = some (.int .u8 o.flags) ∧ w1.cell? ⟨w.heap.size, 6, none⟩ = some (.string (bs o.body))) ∧
    (w1.cell? ⟨w.heap.size + 1 + 1, 0, none⟩ = some (.int .u32 p.src) ∧ w1.cell? ⟨w.heap.size + 1 + 1, 1, none⟩ = some (.int .u32 p.dst) ∧ w1.cell? ⟨w.heap.size + 1 + 1, 2, none⟩ = some (.int .u16 p.port) ∧ w1.cell? ⟨w.heap.size + 1 + 1, 3, none⟩ = some (.int .u16 p.seq) ∧ w1.cell? ⟨w.heap.size + 1 + 1, 4, none⟩ = some (.int .u32 p.time) ∧ w1.cell? ⟨w.heap.size + 1 + 1, 5, none⟩ = some (.int .u16 p.id) ∧ w1.cell? ⟨w.heap.size + 1 + 1, 6, none⟩ = some (.int .u8 p.flags) ∧ w1.cell? ⟨w.heap.size + 1 + 1, 7, none⟩ = some (.string (bs p.body))) ∧
    (w1.frozen? ⟨w.heap.size + 1 + 1, 0, none⟩ = false ∧ w1.frozen? ⟨w.heap.size + 1 + 1, 1, none⟩ = false ∧ w1.frozen? ⟨w.heap.size + 1 + 1, 2, none⟩ = false ∧ w1.frozen? ⟨w.heap.size + 1 + 1, 3, none⟩ = false ∧ w1.frozen? ⟨w.heap.size + 1 + 1, 4, none⟩ = false ∧ w1.frozen? ⟨w.heap.size + 1 + 1, 5, none⟩ = false ∧ w1.frozen? ⟨w.heap.size + 1 + 1, 6, none⟩ = false ∧ w1.frozen? ⟨w.heap.size + 1 + 1, 7, none⟩ = false) :=
  ⟨⟨block_cell h.st 1, block_cell h.st 2, block_cell h.st 3, block_cell h.st 4, block_cell h.st 5, block_cell h.st 6⟩, cells8 h.pk, free8 h.pk⟩

theorem InK.drew {w w1 : World} {b : Nat} {m : Ln} {o : Sp} {p : Pk} (h : InK w b m o p w1) : InK w b m o p w1.drew := ⟨h.ln, h.st, h.res, h.pk, h.bb, h.below.drew⟩
theorem LnAt.drew {w : World} {b : Nat} {m : Ln} (h : LnAt w b m) : LnAt w.drew b m := h
theorem at_drew {w : World} {k : Nat} {O : Obj} (h : w.heap[k]? = some O) : w.drew.heap[k]? = some O := h
/-- a packet is written into the line -/
theorem ln_fill {w : World} {b : Nat} {m : Ln} (hm : m.ok) (h : LnAt w b m) {n : Nat} (hn : n < 10) (P : Pk) : LnAt ((((((((w.setCell ⟨b, 5 + n * 8, none⟩ (.int .u32 P.src)).setCell ⟨b, 5 + n * 8 + 1, none⟩ (.int .u32 P.dst)).setCell ⟨b, 5 + n * 8 + 2, none⟩ (.int .u16 P.port)).setCell ⟨b, 5 + n * 8 + 3, none⟩ (.int .u16 P.seq)).setCell ⟨b, 5 + n * 8 + 4, none⟩ (.int .u32 P.time)).setCell ⟨b, 5 + n * 8 + 5, none⟩ (.int .u16 P.id)).setCell ⟨b, 5 + n * 8 + 6, none⟩ (.int .u8 P.flags)).setCell ⟨b, 5 + n * 8 + 7, none⟩ (.string (bs P.body))) b (m.setLast n P) := by
  have h0 := heap_setCell_same w b (5 + n * 8) _ _ (.int .u32 P.src) h
  have h1 := heap_setCell_same _ b (5 + n * 8 + 1) _ _ (.int .u32 P.dst) h0
  have h2 := heap_setCell_same _ b (5 + n * 8 + 2) _ _ (.int .u16 P.port) h1
  have h3 := heap_setCell_same _ b (5 + n * 8 + 3) _ _ (.int .u16 P.seq) h2
  have h4 := heap_setCell_same _ b (5 + n * 8 + 4) _ _ (.int .u32 P.time) h3
  have h5 := heap_setCell_same _ b (5 + n * 8 + 5) _ _ (.int .u16 P.id) h4
  have h6 := heap_setCell_same _ b (5 + n * 8 + 6) _ _ (.int .u8 P.flags) h5
  have h7 := heap_setCell_same _ b (5 + n * 8 + 7) _ _ (.string (bs P.body)) h6
  have e := Ln.putLast hm n P hn
  have e2 : putRow m.cells (5 + n * 8) P.cells.toList = (((((((m.cells.setIfInBounds (5 + n * 8) (.int .u32 P.src)).setIfInBounds (5 + n * 8 + 1) (.int .u32 P.dst)).setIfInBounds (5 + n * 8 + 2) (.int .u16 P.port)).setIfInBounds (5 + n * 8 + 3) (.int .u16 P.seq)).setIfInBounds (5 + n * 8 + 4) (.int .u32 P.time)).setIfInBounds (5 + n * 8 + 5) (.int .u16 P.id)).setIfInBounds (5 + n * 8 + 6) (.int .u8 P.flags)).setIfInBounds (5 + n * 8 + 7) (.string (bs P.body)) := rfl
  rw [← e2, e] at h7
  exact h7
theorem ln_other {w : World} {b k : Nat} {O : Obj} (h : w.heap[k]? = some O) (hk : k ≠ b) (n : Nat) (P : Pk) : (((((((((w.setCell ⟨b, 5 + n * 8, none⟩ (.int .u32 P.src)).setCell ⟨b, 5 + n * 8 + 1, none⟩ (.int .u32 P.dst)).setCell ⟨b, 5 + n * 8 + 2, none⟩ (.int .u16 P.port)).setCell ⟨b, 5 + n * 8 + 3, none⟩ (.int .u16 P.seq)).setCell ⟨b, 5 + n * 8 + 4, none⟩ (.int .u32 P.time)).setCell ⟨b, 5 + n * 8 + 5, none⟩ (.int .u16 P.id)).setCell ⟨b, 5 + n * 8 + 6, none⟩ (.int .u8 P.flags)).setCell ⟨b, 5 + n * 8 + 7, none⟩ (.string (bs P.body)))).heap[k]? = some O := by
  rw [Below.heap_setCell _ _ _ _ (by exact hk), Below.heap_setCell _ _ _ _ (by exact hk), Below.heap_setCell _ _ _ _ (by exact hk), Below.heap_setCell _ _ _ _ (by exact hk), Below.heap_setCell _ _ _ _ (by exact hk), Below.heap_setCell _ _ _ _ (by exact hk), Below.heap_setCell _ _ _ _ (by exact hk), Below.heap_setCell _ _ _ _ (by exact hk)]
  exact h
theorem ln_only {w a : World} {b : Nat} (h : Only (· = b) a w) (n : Nat) (P : Pk) : Only (· = b) a ((((((((w.setCell ⟨b, 5 + n * 8, none⟩ (.int .u32 P.src)).setCell ⟨b, 5 + n * 8 + 1, none⟩ (.int .u32 P.dst)).setCell ⟨b, 5 + n * 8 + 2, none⟩ (.int .u16 P.port)).setCell ⟨b, 5 + n * 8 + 3, none⟩ (.int .u16 P.seq)).setCell ⟨b, 5 + n * 8 + 4, none⟩ (.int .u32 P.time)).setCell ⟨b, 5 + n * 8 + 5, none⟩ (.int .u16 P.id)).setCell ⟨b, 5 + n * 8 + 6, none⟩ (.int .u8 P.flags)).setCell ⟨b, 5 + n * 8 + 7, none⟩ (.string (bs P.body))) :=
  (((((((h.setCell rfl _).setCell rfl _).setCell rfl _).setCell rfl _).setCell rfl _).setCell rfl _).setCell rfl _).setCell rfl _

set_option maxRecDepth 100000 in
set_option maxHeartbeats 20000000 in
theorem kpacket_any (m : Ln) (b : Nat) (o : Sp) (w : World) (hm : m.ok) (h : LnAt w b m) (ho : o.ok) :
    Calls Try.prog 39 #[.pointer (some ⟨b, 0, none⟩), .agg o.cells] w fun e w' => e = .returned (.agg (packetK m o).cells) ∧ LnAt w' b (m.setLast (flowN o) (packetK m o)) ∧ Only (· = b) w w' := by
  have hf := flowN_lt o
  obtain ⟨n, hn⟩ : ∃ n, n = flowN o := ⟨_, rfl⟩
  have hpk : bits.pk o.flow 10 = (n : Int) := by
    have := bits.pk_bd o.flow 10 (by decide)
    rw [hn]; unfold flowN; omega
  rw [← hn] at hf ⊢
  have i0 : (0 : Int) ≤ (n : Int) := by omega
  have i1 : (n : Int) < 10 := by omega
  obtain ⟨q, hq⟩ : ∃ q, q = m.at_ n := ⟨_, rfl⟩
  obtain ⟨P, hP⟩ : ∃ P, P = packetK m o := ⟨_, rfl⟩
  rw [← hP]
  have cl : ∀ j, j < 8 → w.cell? ⟨b, 5 + n * 8 + j, none⟩ = q.cells[j]? := fun j hj => by
    rw [block_cell h, Ln.getLast hm n j hf hj, hq]
  have hbw := block_lt h
  have X := hide (show ∀ w : World, Calls Try.prog 24 #[.int .i64 o.flow, .int .i64 10] w fun e w' => e = .returned (.int .i64 n) ∧ w' = w by
    intro w; rw [← hpk]; exact bits.pick_any o.flow 10 w ho.flow.1 ho.flow.2 (by decide) (by decide))
  have k0 : w.cell? ⟨b, 5 + n * 8, none⟩ = some (.int .u32 q.src) := (cl 0 (by omega)).trans rfl
  have k1 : w.cell? ⟨b, 5 + n * 8 + 1, none⟩ = some (.int .u32 q.dst) := (cl 1 (by omega)).trans rfl
  have k2 : w.cell? ⟨b, 5 + n * 8 + 2, none⟩ = some (.int .u16 q.port) := (cl 2 (by omega)).trans rfl
  have k3 : w.cell? ⟨b, 5 + n * 8 + 3, none⟩ = some (.int .u16 q.seq) := (cl 3 (by omega)).trans rfl
  have k4 : w.cell? ⟨b, 5 + n * 8 + 4, none⟩ = some (.int .u32 q.time) := (cl 4 (by omega)).trans rfl
  have k5 : w.cell? ⟨b, 5 + n * 8 + 5, none⟩ = some (.int .u16 q.id) := (cl 5 (by omega)).trans rfl
  have k6 : w.cell? ⟨b, 5 + n * 8 + 6, none⟩ = some (.int .u8 q.flags) := (cl 6 (by omega)).trans rfl
  have k7 : w.cell? ⟨b, 5 + n * 8 + 7, none⟩ = some (.string (bs q.body)) := (cl 7 (by omega)).trans rfl
  have HI := hide (show InK w b m o q (((w.alloc (.cells o.cells 88)).alloc (.cells zeroP.cells 51)).alloc (.cells q.cells 51)) from
    ⟨block_alloc (block_alloc (block_alloc h _) _) _, block_alloc (block_alloc (heap_alloc_new w _) _) _, second_alloc w _ _ _, third_alloc w _ _ _, block_lt h, (((Below.refl _ _).alloc (Nat.le_refl _) _).alloc (by simp) _).alloc (by simp; omega) _⟩)
  obtain ⟨S, hS⟩ : ∃ S, S = srcN n := ⟨_, rfl⟩
  obtain ⟨D, hD⟩ : ∃ D, D = dstN n := ⟨_, rfl⟩
  obtain ⟨T, hT⟩ : ∃ T, T = portN n := ⟨_, rfl⟩
  have XR := hide (show ∀ w : World, Calls Try.prog 74 #[.int .i64 n] w fun e w' => e = .returned (.agg #[.int .u32 S, .int .u32 D, .int .u16 T]) ∧ Below w.heap.size w w' by
    intro w; rw [hS, hD, hT]; exact kroute_any n w (by omega))
  have hP1 : o.how % 4 = 0 → P = ⟨S, D, T, o.seq, o.time, o.id, o.flags, o.body.take 100⟩ := fun h4 => by
    rw [hP, hS, hD, hT]
    unfold packetK
    rw [← hn]
    simp only [if_pos h4, routeN]
  have hP2 : ¬ o.how % 4 = 0 → P = ⟨S, D, T, (q.seq + 1) % 65536, (q.time + 160) % 4294967296, (q.id + 1) % 65536, q.flags, o.body.take 100⟩ := fun h4 => by
    rw [hP, hS, hD, hT, hq]
    unfold packetK
    rw [← hn]
    simp only [if_neg h4, routeN]
  have HP1 := hide hP1
  have HP2 := hide hP2
  have HP := hide hP
  have Hq := hide hq
  have qo : q.ok := by rw [hq]; exact Ln.at_ok hm n hf
  have HM := hide hm
  have HO := hide ho
  have Hn := hide hn
  clear cl h hm ho hP hq hn hpk hS hD hT hP1 hP2
  unfold Sp.cells
  go_enter Try.func39, Try.ntmps39
  go_upto_region 4 with (first
    | (go_at_call 24; refine (unhide X _).mono ?_; rintro e w' ⟨rfl, rfl⟩)
    | (go_at_call 74; refine (unhide XR _).mono ?_; rintro e w1 ⟨rfl, hb1⟩; have K := (unhide HI).call hb1; obtain ⟨⟨s1, s2, s3, s4, s5, s6⟩, ⟨p0, p1, p2, p3, p4, p5, p6, p7⟩, ⟨f0, f1, f2, f3, f4, f5, f6, f7⟩⟩ := K.out; have HK := hide K; clear K hb1))
  have K1 : InK w b m o { q with src := S, dst := D, port := T } (((w1.setCell ⟨w.heap.size + 1 + 1, 0, none⟩ (.int .u32 (S : Nat))).setCell ⟨w.heap.size + 1 + 1, 1, none⟩ (.int .u32 (D : Nat))).setCell ⟨w.heap.size + 1 + 1, 2, none⟩ (.int .u16 (T : Nat))) :=
    (((unhide HK).cell 0 _ (p' := { q with src := S }) (by simp only [Pk.cells, List.setIfInBounds_toArray, List.set_cons_zero])).cell 1 _ (p' := { q with src := S, dst := D }) (by simp only [Pk.cells, List.setIfInBounds_toArray, List.set_cons_zero, List.set_cons_succ])).cell 2 _ (by simp only [Pk.cells, List.setIfInBounds_toArray, List.set_cons_zero, List.set_cons_succ])
  have HK1 := hide K1
  clear K1 HK s1 s2 s3 s4 s5 s6 p0 p1 p2 p3 p4 p5 p6 p7 f0 f1 f2 f3 f4 f5 f6 f7 k0 k1 k2 k3 k4 k5 k6 k7 HI X XR
  generalize ((w1.setCell ⟨w.heap.size + 1 + 1, 0, none⟩ (.int .u32 (S : Nat))).setCell ⟨w.heap.size + 1 + 1, 1, none⟩ (.int .u32 (D : Nat))).setCell ⟨w.heap.size + 1 + 1, 2, none⟩ (.int .u16 (T : Nat)) = w2 at HK1 ⊢
  obtain ⟨⟨s1, s2, s3, s4, s5, s6⟩, ⟨p0, p1, p2, p3, p4, p5, p6, p7⟩, ⟨f0, f1, f2, f3, f4, f5, f6, f7⟩⟩ := (unhide HK1).out
  have hbl := (unhide HO).body
  unfold maxLen at hbl
  go_upto_region 5 with fail
  have K2 : InK w b m o { q with src := S, dst := D, port := T, body := o.body } (w2.setCell ⟨w.heap.size + 1 + 1, 7, none⟩ (.string (bs o.body))) := (unhide HK1).cell 7 _ (by simp only [Pk.cells, List.setIfInBounds_toArray, List.set_cons_zero, List.set_cons_succ])
  have HK2 := hide K2
  clear K2 HK1 s1 s2 s3 s4 s5 s6 p0 p1 p2 p3 p4 p5 p6 p7 f0 f1 f2 f3 f4 f5 f6 f7
  generalize w2.setCell ⟨w.heap.size + 1 + 1, 7, none⟩ (.string (bs o.body)) = w3 at HK2 ⊢
  obtain ⟨⟨s1, s2, s3, s4, s5, s6⟩, ⟨p0, p1, p2, p3, p4, p5, p6, p7⟩, ⟨f0, f1, f2, f3, f4, f5, f6, f7⟩⟩ := (unhide HK2).out
  by_cases hlong : 100 < o.body.length
  · have g100 : (100 : Int) ≤ (o.body.length : Int) := by omega
    go_upto_region 7 with fail
    have K4 : InK w b m o { q with src := S, dst := D, port := T, body := o.body.take 100 } (w3.setCell ⟨w.heap.size + 1 + 1, 7, none⟩ (.string (bs (o.body.take 100)))) := (unhide HK2).cell 7 _ (by simp only [Pk.cells, List.setIfInBounds_toArray, List.set_cons_zero, List.set_cons_succ])
    have HK4 := hide K4
    clear K4 HK2
    clear s1 s2 s3 s4 s5 s6 p0 p1 p2 p3 p4 p5 p6 p7 f0 f1 f2 f3 f4 f5 f6 f7
    generalize w3.setCell ⟨w.heap.size + 1 + 1, 7, none⟩ (.string (bs (o.body.take 100))) = w4 at HK4 ⊢
    obtain ⟨⟨s1, s2, s3, s4, s5, s6⟩, ⟨p0, p1, p2, p3, p4, p5, p6, p7⟩, ⟨f0, f1, f2, f3, f4, f5, f6, f7⟩⟩ := (unhide HK4).out
    by_cases h4 : o.how % 4 = 0
    · have h4b : (o.how.tmod 4 == 0) = true := by rw [beq_iff_eq]; exact Int.tmod_eq_zero_of_dvd (Int.dvd_of_emod_eq_zero h4)
      go_upto_region 15 with fail
      have K5 : InK w b m o P ((((w4.setCell ⟨w.heap.size + 1 + 1, 3, none⟩ (.int .u16 o.seq)).setCell ⟨w.heap.size + 1 + 1, 4, none⟩ (.int .u32 o.time)).setCell ⟨w.heap.size + 1 + 1, 5, none⟩ (.int .u16 o.id)).setCell ⟨w.heap.size + 1 + 1, 6, none⟩ (.int .u8 o.flags)) := by
        rw [unhide HP1 h4]
        exact ((((unhide HK4).cell 3 _ (p' := { q with src := S, dst := D, port := T, body := o.body.take 100, seq := o.seq }) (by simp only [Pk.cells, List.setIfInBounds_toArray, List.set_cons_zero, List.set_cons_succ])).cell 4 _ (p' := { q with src := S, dst := D, port := T, body := o.body.take 100, seq := o.seq, time := o.time }) (by simp only [Pk.cells, List.setIfInBounds_toArray, List.set_cons_zero, List.set_cons_succ])).cell 5 _ (p' := { q with src := S, dst := D, port := T, body := o.body.take 100, seq := o.seq, time := o.time, id := o.id }) (by simp only [Pk.cells, List.setIfInBounds_toArray, List.set_cons_zero, List.set_cons_succ])).cell 6 _ (by simp only [Pk.cells, List.setIfInBounds_toArray, List.set_cons_zero, List.set_cons_succ])
      have HK5 := hide K5
      clear K5 HK4 
      clear s1 s2 s3 s4 s5 s6 p0 p1 p2 p3 p4 p5 p6 p7 f0 f1 f2 f3 f4 f5 f6 f7
      generalize (((w4.setCell ⟨w.heap.size + 1 + 1, 3, none⟩ (.int .u16 (o.seq : Int))).setCell ⟨w.heap.size + 1 + 1, 4, none⟩ (.int .u32 (o.time : Int))).setCell ⟨w.heap.size + 1 + 1, 5, none⟩ (.int .u16 (o.id : Int))).setCell ⟨w.heap.size + 1 + 1, 6, none⟩ (.int .u8 (o.flags : Int)) = w5 at HK5 ⊢
      have L5 := (unhide HK5).drew.ln
      obtain ⟨_, ⟨p0, p1, p2, p3, p4, p5, p6, p7⟩, _⟩ := (unhide HK5).drew.out
      have g0 : w5.drew.cell? ⟨b, 5 + n * 8, none⟩ = some (.int .u32 q.src) := (block_cell L5 (5 + n * 8)).trans ((Ln.getLast (unhide HM) n 0 hf (by omega)).trans (by rw [← unhide Hq]; rfl))
      have z0 := block_free L5 (5 + n * 8)
      have G0 : w5.cell? ⟨b, 5 + n * 8, none⟩ = _ := g0
      have Z0 : w5.frozen? ⟨b, 5 + n * 8, none⟩ = false := z0
      have g1 : w5.drew.cell? ⟨b, 5 + n * 8 + 1, none⟩ = some (.int .u32 q.dst) := (block_cell L5 (5 + n * 8 + 1)).trans ((Ln.getLast (unhide HM) n 1 hf (by omega)).trans (by rw [← unhide Hq]; rfl))
      have z1 := block_free L5 (5 + n * 8 + 1)
      have G1 : w5.cell? ⟨b, 5 + n * 8 + 1, none⟩ = _ := g1
      have Z1 : w5.frozen? ⟨b, 5 + n * 8 + 1, none⟩ = false := z1
      have g2 : w5.drew.cell? ⟨b, 5 + n * 8 + 2, none⟩ = some (.int .u16 q.port) := (block_cell L5 (5 + n * 8 + 2)).trans ((Ln.getLast (unhide HM) n 2 hf (by omega)).trans (by rw [← unhide Hq]; rfl))
      have z2 := block_free L5 (5 + n * 8 + 2)
      have G2 : w5.cell? ⟨b, 5 + n * 8 + 2, none⟩ = _ := g2
      have Z2 : w5.frozen? ⟨b, 5 + n * 8 + 2, none⟩ = false := z2
      have g3 : w5.drew.cell? ⟨b, 5 + n * 8 + 3, none⟩ = some (.int .u16 q.seq) := (block_cell L5 (5 + n * 8 + 3)).trans ((Ln.getLast (unhide HM) n 3 hf (by omega)).trans (by rw [← unhide Hq]; rfl))
      have z3 := block_free L5 (5 + n * 8 + 3)
      have G3 : w5.cell? ⟨b, 5 + n * 8 + 3, none⟩ = _ := g3
      have Z3 : w5.frozen? ⟨b, 5 + n * 8 + 3, none⟩ = false := z3
      have g4 : w5.drew.cell? ⟨b, 5 + n * 8 + 4, none⟩ = some (.int .u32 q.time) := (block_cell L5 (5 + n * 8 + 4)).trans ((Ln.getLast (unhide HM) n 4 hf (by omega)).trans (by rw [← unhide Hq]; rfl))
      have z4 := block_free L5 (5 + n * 8 + 4)
      have G4 : w5.cell? ⟨b, 5 + n * 8 + 4, none⟩ = _ := g4
      have Z4 : w5.frozen? ⟨b, 5 + n * 8 + 4, none⟩ = false := z4
      have g5 : w5.drew.cell? ⟨b, 5 + n * 8 + 5, none⟩ = some (.int .u16 q.id) := (block_cell L5 (5 + n * 8 + 5)).trans ((Ln.getLast (unhide HM) n 5 hf (by omega)).trans (by rw [← unhide Hq]; rfl))
      have z5 := block_free L5 (5 + n * 8 + 5)
      have G5 : w5.cell? ⟨b, 5 + n * 8 + 5, none⟩ = _ := g5
      have Z5 : w5.frozen? ⟨b, 5 + n * 8 + 5, none⟩ = false := z5
      have g6 : w5.drew.cell? ⟨b, 5 + n * 8 + 6, none⟩ = some (.int .u8 q.flags) := (block_cell L5 (5 + n * 8 + 6)).trans ((Ln.getLast (unhide HM) n 6 hf (by omega)).trans (by rw [← unhide Hq]; rfl))
      have z6 := block_free L5 (5 + n * 8 + 6)
      have G6 : w5.cell? ⟨b, 5 + n * 8 + 6, none⟩ = _ := g6
      have Z6 : w5.frozen? ⟨b, 5 + n * 8 + 6, none⟩ = false := z6
      have g7 : w5.drew.cell? ⟨b, 5 + n * 8 + 7, none⟩ = some (.string (bs q.body)) := (block_cell L5 (5 + n * 8 + 7)).trans ((Ln.getLast (unhide HM) n 7 hf (by omega)).trans (by rw [← unhide Hq]; rfl))
      have z7 := block_free L5 (5 + n * 8 + 7)
      have G7 : w5.cell? ⟨b, 5 + n * 8 + 7, none⟩ = _ := g7
      have Z7 : w5.frozen? ⟨b, 5 + n * 8 + 7, none⟩ = false := z7
      clear L5
      go_region
      all_goals
        have hnb1 : w.heap.size + 1 ≠ b := by omega
        have hnb2 : w.heap.size + 1 + 1 ≠ b := by omega
        have L6 := (ln_fill (unhide HM) (unhide HK5).ln hf P).drew
        have R6 := at_drew (ln_other (unhide HK5).res hnb1 n P)
        have P6 := at_drew (ln_other (unhide HK5).pk hnb2 n P)
        have O6 := (ln_only (b := b) (Only.of_below (unhide HK5).below) n P).drew
        have HL6 := hide L6
        have HR6 := hide R6
        have HP6 := hide P6
        have HO6 := hide O6
        clear L6 R6 P6 O6 p0 p1 p2 p3 p4 p5 p6 p7 g0 g1 g2 g3 g4 g5 g6 g7 z0 z1 z2 z3 z4 z5 z6 z7 G0 G1 G2 G3 G4 G5 G6 G7 Z0 Z1 Z2 Z3 Z4 Z5 Z6 Z7
        generalize ((((((((w5.setCell ⟨b, 5 + n * 8, none⟩ (.int .u32 P.src)).setCell ⟨b, 5 + n * 8 + 1, none⟩ (.int .u32 P.dst)).setCell ⟨b, 5 + n * 8 + 2, none⟩ (.int .u16 P.port)).setCell ⟨b, 5 + n * 8 + 3, none⟩ (.int .u16 P.seq)).setCell ⟨b, 5 + n * 8 + 4, none⟩ (.int .u32 P.time)).setCell ⟨b, 5 + n * 8 + 5, none⟩ (.int .u16 P.id)).setCell ⟨b, 5 + n * 8 + 6, none⟩ (.int .u8 P.flags)).setCell ⟨b, 5 + n * 8 + 7, none⟩ (.string (bs P.body))).drew = w6 at HL6 HR6 HP6 HO6 ⊢
        obtain ⟨PC, hPC⟩ : ∃ PC, PC = P.cells := ⟨_, rfl⟩
        rw [← hPC] at HP6
        have HPC := hide hPC
        have PI := hide (show (Try.prog.info? 51).map (·.size) = some PC.size by rw [hPC]; exact infoPk)
        have PS := hide (show zeroP.cells.size = PC.size by rw [hPC]; rfl)
        have PO := hide (show PC.all (·.oneCell') = true by rw [hPC]; exact Pk.cells_one _)
        clear hPC
        go_wp2_with (first
          | (refine load_whole (ty := 51) rfl (unhide HP6) Try.underlying51 rfl (unhide PI) ?_)
          | (refine store_whole (ty := 51) rfl rfl (unhide HR6) (unhide PI) (unhide PS) (unhide PO) ?_))
        exact ret_whole (cs := PC) Try.results39 rfl (setRow_heap _ _ _ _ _ _ (unhide HR6)) Try.underlying51 rfl (unhide PI) rfl ⟨by rw [unhide HPC], by rw [LnAt, setRow_other _ _ _ _ (by omega)]; exact unhide HL6, (unhide HO6).new (by omega) _⟩
    · have h4b : (o.how.tmod 4 == 0) = false := by rw [beq_eq_false_iff_ne]; intro hh; exact h4 (Int.emod_eq_zero_of_dvd (Int.dvd_of_tmod_eq_zero hh))
      have e1 : IntKind.u16.wrap ((q.seq : Int) + 1) = (((q.seq + 1) % 65536 : Nat) : Int) := by rw [IntKind.wrap_u16]; omega
      have e2 : IntKind.u16.wrap ((q.id : Int) + 1) = (((q.id + 1) % 65536 : Nat) : Int) := by rw [IntKind.wrap_u16]; omega
      obtain ⟨a1, ha1⟩ : ∃ a, a = (q.seq + 1) % 65536 := ⟨_, rfl⟩
      obtain ⟨a2, ha2⟩ : ∃ a, a = (q.id + 1) % 65536 := ⟨_, rfl⟩
      obtain ⟨a3, ha3⟩ : ∃ a, a = (q.time + 160) % 4294967296 := ⟨_, rfl⟩
      have e3 : ((q.time : Int) + 160) % 4294967296 = (a3 : Int) := by omega
      have e4 : ((q.seq : Int) + 1) % 65536 = (a1 : Int) := by omega
      have e5 : ((q.id : Int) + 1) % 65536 = (a2 : Int) := by omega
      have HP3 := hide (unhide HP2 h4)
      rw [← ha1, ← ha2, ← ha3] at HP3
      rw [← ha1] at e1
      rw [← ha2] at e2
      clear ha1 ha2 ha3
      go_upto_region 15 with fail
      have K5 : InK w b m o P (((w4.setCell ⟨w.heap.size + 1 + 1, 3, none⟩ (.int .u16 a1)).setCell ⟨w.heap.size + 1 + 1, 4, none⟩ (.int .u32 a3)).setCell ⟨w.heap.size + 1 + 1, 5, none⟩ (.int .u16 a2)) := by
        rw [unhide HP3]
        exact (((unhide HK4).cell 3 _ (p' := { q with src := S, dst := D, port := T, body := o.body.take 100, seq := a1 }) (by simp only [Pk.cells, List.setIfInBounds_toArray, List.set_cons_zero, List.set_cons_succ])).cell 4 _ (p' := { q with src := S, dst := D, port := T, body := o.body.take 100, seq := a1, time := a3 }) (by simp only [Pk.cells, List.setIfInBounds_toArray, List.set_cons_zero, List.set_cons_succ])).cell 5 _ (by simp only [Pk.cells, List.setIfInBounds_toArray, List.set_cons_zero, List.set_cons_succ])
      have HK5 := hide K5
      clear K5 HK4
      clear s1 s2 s3 s4 s5 s6 p0 p1 p2 p3 p4 p5 p6 p7 f0 f1 f2 f3 f4 f5 f6 f7
      generalize ((w4.setCell ⟨w.heap.size + 1 + 1, 3, none⟩ (.int .u16 (a1 : Int))).setCell ⟨w.heap.size + 1 + 1, 4, none⟩ (.int .u32 (a3 : Int))).setCell ⟨w.heap.size + 1 + 1, 5, none⟩ (.int .u16 (a2 : Int)) = w5 at HK5 ⊢
      have L5 := (unhide HK5).drew.ln
      obtain ⟨_, ⟨p0, p1, p2, p3, p4, p5, p6, p7⟩, _⟩ := (unhide HK5).drew.out
      have g0 : w5.drew.cell? ⟨b, 5 + n * 8, none⟩ = some (.int .u32 q.src) := (block_cell L5 (5 + n * 8)).trans ((Ln.getLast (unhide HM) n 0 hf (by omega)).trans (by rw [← unhide Hq]; rfl))
      have z0 := block_free L5 (5 + n * 8)
      have G0 : w5.cell? ⟨b, 5 + n * 8, none⟩ = _ := g0
      have Z0 : w5.frozen? ⟨b, 5 + n * 8, none⟩ = false := z0
      have g1 : w5.drew.cell? ⟨b, 5 + n * 8 + 1, none⟩ = some (.int .u32 q.dst) := (block_cell L5 (5 + n * 8 + 1)).trans ((Ln.getLast (unhide HM) n 1 hf (by omega)).trans (by rw [← unhide Hq]; rfl))
      have z1 := block_free L5 (5 + n * 8 + 1)
      have G1 : w5.cell? ⟨b, 5 + n * 8 + 1, none⟩ = _ := g1
      have Z1 : w5.frozen? ⟨b, 5 + n * 8 + 1, none⟩ = false := z1
      have g2 : w5.drew.cell? ⟨b, 5 + n * 8 + 2, none⟩ = some (.int .u16 q.port) := (block_cell L5 (5 + n * 8 + 2)).trans ((Ln.getLast (unhide HM) n 2 hf (by omega)).trans (by rw [← unhide Hq]; rfl))
      have z2 := block_free L5 (5 + n * 8 + 2)
      have G2 : w5.cell? ⟨b, 5 + n * 8 + 2, none⟩ = _ := g2
      have Z2 : w5.frozen? ⟨b, 5 + n * 8 + 2, none⟩ = false := z2
      have g3 : w5.drew.cell? ⟨b, 5 + n * 8 + 3, none⟩ = some (.int .u16 q.seq) := (block_cell L5 (5 + n * 8 + 3)).trans ((Ln.getLast (unhide HM) n 3 hf (by omega)).trans (by rw [← unhide Hq]; rfl))
      have z3 := block_free L5 (5 + n * 8 + 3)
      have G3 : w5.cell? ⟨b, 5 + n * 8 + 3, none⟩ = _ := g3
      have Z3 : w5.frozen? ⟨b, 5 + n * 8 + 3, none⟩ = false := z3
      have g4 : w5.drew.cell? ⟨b, 5 + n * 8 + 4, none⟩ = some (.int .u32 q.time) := (block_cell L5 (5 + n * 8 + 4)).trans ((Ln.getLast (unhide HM) n 4 hf (by omega)).trans (by rw [← unhide Hq]; rfl))
      have z4 := block_free L5 (5 + n * 8 + 4)
      have G4 : w5.cell? ⟨b, 5 + n * 8 + 4, none⟩ = _ := g4
      have Z4 : w5.frozen? ⟨b, 5 + n * 8 + 4, none⟩ = false := z4
      have g5 : w5.drew.cell? ⟨b, 5 + n * 8 + 5, none⟩ = some (.int .u16 q.id) := (block_cell L5 (5 + n * 8 + 5)).trans ((Ln.getLast (unhide HM) n 5 hf (by omega)).trans (by rw [← unhide Hq]; rfl))
      have z5 := block_free L5 (5 + n * 8 + 5)
      have G5 : w5.cell? ⟨b, 5 + n * 8 + 5, none⟩ = _ := g5
      have Z5 : w5.frozen? ⟨b, 5 + n * 8 + 5, none⟩ = false := z5
      have g6 : w5.drew.cell? ⟨b, 5 + n * 8 + 6, none⟩ = some (.int .u8 q.flags) := (block_cell L5 (5 + n * 8 + 6)).trans ((Ln.getLast (unhide HM) n 6 hf (by omega)).trans (by rw [← unhide Hq]; rfl))
      have z6 := block_free L5 (5 + n * 8 + 6)
      have G6 : w5.cell? ⟨b, 5 + n * 8 + 6, none⟩ = _ := g6
      have Z6 : w5.frozen? ⟨b, 5 + n * 8 + 6, none⟩ = false := z6
      have g7 : w5.drew.cell? ⟨b, 5 + n * 8 + 7, none⟩ = some (.string (bs q.body)) := (block_cell L5 (5 + n * 8 + 7)).trans ((Ln.getLast (unhide HM) n 7 hf (by omega)).trans (by rw [← unhide Hq]; rfl))
      have z7 := block_free L5 (5 + n * 8 + 7)
      have G7 : w5.cell? ⟨b, 5 + n * 8 + 7, none⟩ = _ := g7
      have Z7 : w5.frozen? ⟨b, 5 + n * 8 + 7, none⟩ = false := z7
      clear L5
      go_region
      all_goals
        have hnb1 : w.heap.size + 1 ≠ b := by omega
        have hnb2 : w.heap.size + 1 + 1 ≠ b := by omega
        have L6 := (ln_fill (unhide HM) (unhide HK5).ln hf P).drew
        have R6 := at_drew (ln_other (unhide HK5).res hnb1 n P)
        have P6 := at_drew (ln_other (unhide HK5).pk hnb2 n P)
        have O6 := (ln_only (b := b) (Only.of_below (unhide HK5).below) n P).drew
        have HL6 := hide L6
        have HR6 := hide R6
        have HP6 := hide P6
        have HO6 := hide O6
        clear L6 R6 P6 O6 p0 p1 p2 p3 p4 p5 p6 p7 g0 g1 g2 g3 g4 g5 g6 g7 z0 z1 z2 z3 z4 z5 z6 z7 G0 G1 G2 G3 G4 G5 G6 G7 Z0 Z1 Z2 Z3 Z4 Z5 Z6 Z7
        generalize ((((((((w5.setCell ⟨b, 5 + n * 8, none⟩ (.int .u32 P.src)).setCell ⟨b, 5 + n * 8 + 1, none⟩ (.int .u32 P.dst)).setCell ⟨b, 5 + n * 8 + 2, none⟩ (.int .u16 P.port)).setCell ⟨b, 5 + n * 8 + 3, none⟩ (.int .u16 P.seq)).setCell ⟨b, 5 + n * 8 + 4, none⟩ (.int .u32 P.time)).setCell ⟨b, 5 + n * 8 + 5, none⟩ (.int .u16 P.id)).setCell ⟨b, 5 + n * 8 + 6, none⟩ (.int .u8 P.flags)).setCell ⟨b, 5 + n * 8 + 7, none⟩ (.string (bs P.body))).drew = w6 at HL6 HR6 HP6 HO6 ⊢
        obtain ⟨PC, hPC⟩ : ∃ PC, PC = P.cells := ⟨_, rfl⟩
        rw [← hPC] at HP6
        have HPC := hide hPC
        have PI := hide (show (Try.prog.info? 51).map (·.size) = some PC.size by rw [hPC]; exact infoPk)
        have PS := hide (show zeroP.cells.size = PC.size by rw [hPC]; rfl)
        have PO := hide (show PC.all (·.oneCell') = true by rw [hPC]; exact Pk.cells_one _)
        clear hPC
        go_wp2_with (first
          | (refine load_whole (ty := 51) rfl (unhide HP6) Try.underlying51 rfl (unhide PI) ?_)
          | (refine store_whole (ty := 51) rfl rfl (unhide HR6) (unhide PI) (unhide PS) (unhide PO) ?_))
        exact ret_whole (cs := PC) Try.results39 rfl (setRow_heap _ _ _ _ _ _ (unhide HR6)) Try.underlying51 rfl (unhide PI) rfl ⟨by rw [unhide HPC], by rw [LnAt, setRow_other _ _ _ _ (by omega)]; exact unhide HL6, (unhide HO6).new (by omega) _⟩
  · have et : o.body.take 100 = o.body := List.take_of_length_le (by omega)
    go_upto_region 7 with fail
    have K4 : InK w b m o { q with src := S, dst := D, port := T, body := o.body.take 100 } w3 := by rw [et]; exact unhide HK2
    have HK4 := hide K4
    clear K4 HK2 et
    clear s1 s2 s3 s4 s5 s6 p0 p1 p2 p3 p4 p5 p6 p7 f0 f1 f2 f3 f4 f5 f6 f7
    generalize w3 = w4 at HK4 ⊢
    obtain ⟨⟨s1, s2, s3, s4, s5, s6⟩, ⟨p0, p1, p2, p3, p4, p5, p6, p7⟩, ⟨f0, f1, f2, f3, f4, f5, f6, f7⟩⟩ := (unhide HK4).out
    by_cases h4 : o.how % 4 = 0
    · have h4b : (o.how.tmod 4 == 0) = true := by rw [beq_iff_eq]; exact Int.tmod_eq_zero_of_dvd (Int.dvd_of_emod_eq_zero h4)
      go_upto_region 15 with fail
      have K5 : InK w b m o P ((((w4.setCell ⟨w.heap.size + 1 + 1, 3, none⟩ (.int .u16 o.seq)).setCell ⟨w.heap.size + 1 + 1, 4, none⟩ (.int .u32 o.time)).setCell ⟨w.heap.size + 1 + 1, 5, none⟩ (.int .u16 o.id)).setCell ⟨w.heap.size + 1 + 1, 6, none⟩ (.int .u8 o.flags)) := by
        rw [unhide HP1 h4]
        exact ((((unhide HK4).cell 3 _ (p' := { q with src := S, dst := D, port := T, body := o.body.take 100, seq := o.seq }) (by simp only [Pk.cells, List.setIfInBounds_toArray, List.set_cons_zero, List.set_cons_succ])).cell 4 _ (p' := { q with src := S, dst := D, port := T, body := o.body.take 100, seq := o.seq, time := o.time }) (by simp only [Pk.cells, List.setIfInBounds_toArray, List.set_cons_zero, List.set_cons_succ])).cell 5 _ (p' := { q with src := S, dst := D, port := T, body := o.body.take 100, seq := o.seq, time := o.time, id := o.id }) (by simp only [Pk.cells, List.setIfInBounds_toArray, List.set_cons_zero, List.set_cons_succ])).cell 6 _ (by simp only [Pk.cells, List.setIfInBounds_toArray, List.set_cons_zero, List.set_cons_succ])
      have HK5 := hide K5
      clear K5 HK4 
      clear s1 s2 s3 s4 s5 s6 p0 p1 p2 p3 p4 p5 p6 p7 f0 f1 f2 f3 f4 f5 f6 f7
      generalize (((w4.setCell ⟨w.heap.size + 1 + 1, 3, none⟩ (.int .u16 (o.seq : Int))).setCell ⟨w.heap.size + 1 + 1, 4, none⟩ (.int .u32 (o.time : Int))).setCell ⟨w.heap.size + 1 + 1, 5, none⟩ (.int .u16 (o.id : Int))).setCell ⟨w.heap.size + 1 + 1, 6, none⟩ (.int .u8 (o.flags : Int)) = w5 at HK5 ⊢
      have L5 := (unhide HK5).drew.ln
      obtain ⟨_, ⟨p0, p1, p2, p3, p4, p5, p6, p7⟩, _⟩ := (unhide HK5).drew.out
      have g0 : w5.drew.cell? ⟨b, 5 + n * 8, none⟩ = some (.int .u32 q.src) := (block_cell L5 (5 + n * 8)).trans ((Ln.getLast (unhide HM) n 0 hf (by omega)).trans (by rw [← unhide Hq]; rfl))
      have z0 := block_free L5 (5 + n * 8)
      have G0 : w5.cell? ⟨b, 5 + n * 8, none⟩ = _ := g0
      have Z0 : w5.frozen? ⟨b, 5 + n * 8, none⟩ = false := z0
      have g1 : w5.drew.cell? ⟨b, 5 + n * 8 + 1, none⟩ = some (.int .u32 q.dst) := (block_cell L5 (5 + n * 8 + 1)).trans ((Ln.getLast (unhide HM) n 1 hf (by omega)).trans (by rw [← unhide Hq]; rfl))
      have z1 := block_free L5 (5 + n * 8 + 1)
      have G1 : w5.cell? ⟨b, 5 + n * 8 + 1, none⟩ = _ := g1
      have Z1 : w5.frozen? ⟨b, 5 + n * 8 + 1, none⟩ = false := z1
      have g2 : w5.drew.cell? ⟨b, 5 + n * 8 + 2, none⟩ = some (.int .u16 q.port) := (block_cell L5 (5 + n * 8 + 2)).trans ((Ln.getLast (unhide HM) n 2 hf (by omega)).trans (by rw [← unhide Hq]; rfl))
      have z2 := block_free L5 (5 + n * 8 + 2)
      have G2 : w5.cell? ⟨b, 5 + n * 8 + 2, none⟩ = _ := g2
      have Z2 : w5.frozen? ⟨b, 5 + n * 8 + 2, none⟩ = false := z2
      have g3 : w5.drew.cell? ⟨b, 5 + n * 8 + 3, none⟩ = some (.int .u16 q.seq) := (block_cell L5 (5 + n * 8 + 3)).trans ((Ln.getLast (unhide HM) n 3 hf (by omega)).trans (by rw [← unhide Hq]; rfl))
      have z3 := block_free L5 (5 + n * 8 + 3)
      have G3 : w5.cell? ⟨b, 5 + n * 8 + 3, none⟩ = _ := g3
      have Z3 : w5.frozen? ⟨b, 5 + n * 8 + 3, none⟩ = false := z3
      have g4 : w5.drew.cell? ⟨b, 5 + n * 8 + 4, none⟩ = some (.int .u32 q.time) := (block_cell L5 (5 + n * 8 + 4)).trans ((Ln.getLast (unhide HM) n 4 hf (by omega)).trans (by rw [← unhide Hq]; rfl))
      have z4 := block_free L5 (5 + n * 8 + 4)
      have G4 : w5.cell? ⟨b, 5 + n * 8 + 4, none⟩ = _ := g4
      have Z4 : w5.frozen? ⟨b, 5 + n * 8 + 4, none⟩ = false := z4
      have g5 : w5.drew.cell? ⟨b, 5 + n * 8 + 5, none⟩ = some (.int .u16 q.id) := (block_cell L5 (5 + n * 8 + 5)).trans ((Ln.getLast (unhide HM) n 5 hf (by omega)).trans (by rw [← unhide Hq]; rfl))
      have z5 := block_free L5 (5 + n * 8 + 5)
      have G5 : w5.cell? ⟨b, 5 + n * 8 + 5, none⟩ = _ := g5
      have Z5 : w5.frozen? ⟨b, 5 + n * 8 + 5, none⟩ = false := z5
      have g6 : w5.drew.cell? ⟨b, 5 + n * 8 + 6, none⟩ = some (.int .u8 q.flags) := (block_cell L5 (5 + n * 8 + 6)).trans ((Ln.getLast (unhide HM) n 6 hf (by omega)).trans (by rw [← unhide Hq]; rfl))
      have z6 := block_free L5 (5 + n * 8 + 6)
      have G6 : w5.cell? ⟨b, 5 + n * 8 + 6, none⟩ = _ := g6
      have Z6 : w5.frozen? ⟨b, 5 + n * 8 + 6, none⟩ = false := z6
      have g7 : w5.drew.cell? ⟨b, 5 + n * 8 + 7, none⟩ = some (.string (bs q.body)) := (block_cell L5 (5 + n * 8 + 7)).trans ((Ln.getLast (unhide HM) n 7 hf (by omega)).trans (by rw [← unhide Hq]; rfl))
      have z7 := block_free L5 (5 + n * 8 + 7)
      have G7 : w5.cell? ⟨b, 5 + n * 8 + 7, none⟩ = _ := g7
      have Z7 : w5.frozen? ⟨b, 5 + n * 8 + 7, none⟩ = false := z7
      clear L5
      go_region
      all_goals
        have hnb1 : w.heap.size + 1 ≠ b := by omega
        have hnb2 : w.heap.size + 1 + 1 ≠ b := by omega
        have L6 := (ln_fill (unhide HM) (unhide HK5).ln hf P).drew
        have R6 := at_drew (ln_other (unhide HK5).res hnb1 n P)
        have P6 := at_drew (ln_other (unhide HK5).pk hnb2 n P)
        have O6 := (ln_only (b := b) (Only.of_below (unhide HK5).below) n P).drew
        have HL6 := hide L6
        have HR6 := hide R6
        have HP6 := hide P6
        have HO6 := hide O6
        clear L6 R6 P6 O6 p0 p1 p2 p3 p4 p5 p6 p7 g0 g1 g2 g3 g4 g5 g6 g7 z0 z1 z2 z3 z4 z5 z6 z7 G0 G1 G2 G3 G4 G5 G6 G7 Z0 Z1 Z2 Z3 Z4 Z5 Z6 Z7
        generalize ((((((((w5.setCell ⟨b, 5 + n * 8, none⟩ (.int .u32 P.src)).setCell ⟨b, 5 + n * 8 + 1, none⟩ (.int .u32 P.dst)).setCell ⟨b, 5 + n * 8 + 2, none⟩ (.int .u16 P.port)).setCell ⟨b, 5 + n * 8 + 3, none⟩ (.int .u16 P.seq)).setCell ⟨b, 5 + n * 8 + 4, none⟩ (.int .u32 P.time)).setCell ⟨b, 5 + n * 8 + 5, none⟩ (.int .u16 P.id)).setCell ⟨b, 5 + n * 8 + 6, none⟩ (.int .u8 P.flags)).setCell ⟨b, 5 + n * 8 + 7, none⟩ (.string (bs P.body))).drew = w6 at HL6 HR6 HP6 HO6 ⊢
        obtain ⟨PC, hPC⟩ : ∃ PC, PC = P.cells := ⟨_, rfl⟩
        rw [← hPC] at HP6
        have HPC := hide hPC
        have PI := hide (show (Try.prog.info? 51).map (·.size) = some PC.size by rw [hPC]; exact infoPk)
        have PS := hide (show zeroP.cells.size = PC.size by rw [hPC]; rfl)
        have PO := hide (show PC.all (·.oneCell') = true by rw [hPC]; exact Pk.cells_one _)
        clear hPC
        go_wp2_with (first
          | (refine load_whole (ty := 51) rfl (unhide HP6) Try.underlying51 rfl (unhide PI) ?_)
          | (refine store_whole (ty := 51) rfl rfl (unhide HR6) (unhide PI) (unhide PS) (unhide PO) ?_))
        exact ret_whole (cs := PC) Try.results39 rfl (setRow_heap _ _ _ _ _ _ (unhide HR6)) Try.underlying51 rfl (unhide PI) rfl ⟨by rw [unhide HPC], by rw [LnAt, setRow_other _ _ _ _ (by omega)]; exact unhide HL6, (unhide HO6).new (by omega) _⟩
    · have h4b : (o.how.tmod 4 == 0) = false := by rw [beq_eq_false_iff_ne]; intro hh; exact h4 (Int.emod_eq_zero_of_dvd (Int.dvd_of_tmod_eq_zero hh))
      have e1 : IntKind.u16.wrap ((q.seq : Int) + 1) = (((q.seq + 1) % 65536 : Nat) : Int) := by rw [IntKind.wrap_u16]; omega
      have e2 : IntKind.u16.wrap ((q.id : Int) + 1) = (((q.id + 1) % 65536 : Nat) : Int) := by rw [IntKind.wrap_u16]; omega
      obtain ⟨a1, ha1⟩ : ∃ a, a = (q.seq + 1) % 65536 := ⟨_, rfl⟩
      obtain ⟨a2, ha2⟩ : ∃ a, a = (q.id + 1) % 65536 := ⟨_, rfl⟩
      obtain ⟨a3, ha3⟩ : ∃ a, a = (q.time + 160) % 4294967296 := ⟨_, rfl⟩
      have e3 : ((q.time : Int) + 160) % 4294967296 = (a3 : Int) := by omega
      have e4 : ((q.seq : Int) + 1) % 65536 = (a1 : Int) := by omega
      have e5 : ((q.id : Int) + 1) % 65536 = (a2 : Int) := by omega
      have HP3 := hide (unhide HP2 h4)
      rw [← ha1, ← ha2, ← ha3] at HP3
      rw [← ha1] at e1
      rw [← ha2] at e2
      clear ha1 ha2 ha3
      go_upto_region 15 with fail
      have K5 : InK w b m o P (((w4.setCell ⟨w.heap.size + 1 + 1, 3, none⟩ (.int .u16 a1)).setCell ⟨w.heap.size + 1 + 1, 4, none⟩ (.int .u32 a3)).setCell ⟨w.heap.size + 1 + 1, 5, none⟩ (.int .u16 a2)) := by
        rw [unhide HP3]
        exact (((unhide HK4).cell 3 _ (p' := { q with src := S, dst := D, port := T, body := o.body.take 100, seq := a1 }) (by simp only [Pk.cells, List.setIfInBounds_toArray, List.set_cons_zero, List.set_cons_succ])).cell 4 _ (p' := { q with src := S, dst := D, port := T, body := o.body.take 100, seq := a1, time := a3 }) (by simp only [Pk.cells, List.setIfInBounds_toArray, List.set_cons_zero, List.set_cons_succ])).cell 5 _ (by simp only [Pk.cells, List.setIfInBounds_toArray, List.set_cons_zero, List.set_cons_succ])
      have HK5 := hide K5
      clear K5 HK4
      clear s1 s2 s3 s4 s5 s6 p0 p1 p2 p3 p4 p5 p6 p7 f0 f1 f2 f3 f4 f5 f6 f7
      generalize ((w4.setCell ⟨w.heap.size + 1 + 1, 3, none⟩ (.int .u16 (a1 : Int))).setCell ⟨w.heap.size + 1 + 1, 4, none⟩ (.int .u32 (a3 : Int))).setCell ⟨w.heap.size + 1 + 1, 5, none⟩ (.int .u16 (a2 : Int)) = w5 at HK5 ⊢
      have L5 := (unhide HK5).drew.ln
      obtain ⟨_, ⟨p0, p1, p2, p3, p4, p5, p6, p7⟩, _⟩ := (unhide HK5).drew.out
      have g0 : w5.drew.cell? ⟨b, 5 + n * 8, none⟩ = some (.int .u32 q.src) := (block_cell L5 (5 + n * 8)).trans ((Ln.getLast (unhide HM) n 0 hf (by omega)).trans (by rw [← unhide Hq]; rfl))
      have z0 := block_free L5 (5 + n * 8)
      have G0 : w5.cell? ⟨b, 5 + n * 8, none⟩ = _ := g0
      have Z0 : w5.frozen? ⟨b, 5 + n * 8, none⟩ = false := z0
      have g1 : w5.drew.cell? ⟨b, 5 + n * 8 + 1, none⟩ = some (.int .u32 q.dst) := (block_cell L5 (5 + n * 8 + 1)).trans ((Ln.getLast (unhide HM) n 1 hf (by omega)).trans (by rw [← unhide Hq]; rfl))
      have z1 := block_free L5 (5 + n * 8 + 1)
      have G1 : w5.cell? ⟨b, 5 + n * 8 + 1, none⟩ = _ := g1
      have Z1 : w5.frozen? ⟨b, 5 + n * 8 + 1, none⟩ = false := z1
      have g2 : w5.drew.cell? ⟨b, 5 + n * 8 + 2, none⟩ = some (.int .u16 q.port) := (block_cell L5 (5 + n * 8 + 2)).trans ((Ln.getLast (unhide HM) n 2 hf (by omega)).trans (by rw [← unhide Hq]; rfl))
      have z2 := block_free L5 (5 + n * 8 + 2)
      have G2 : w5.cell? ⟨b, 5 + n * 8 + 2, none⟩ = _ := g2
      have Z2 : w5.frozen? ⟨b, 5 + n * 8 + 2, none⟩ = false := z2
      have g3 : w5.drew.cell? ⟨b, 5 + n * 8 + 3, none⟩ = some (.int .u16 q.seq) := (block_cell L5 (5 + n * 8 + 3)).trans ((Ln.getLast (unhide HM) n 3 hf (by omega)).trans (by rw [← unhide Hq]; rfl))
      have z3 := block_free L5 (5 + n * 8 + 3)
      have G3 : w5.cell? ⟨b, 5 + n * 8 + 3, none⟩ = _ := g3
      have Z3 : w5.frozen? ⟨b, 5 + n * 8 + 3, none⟩ = false := z3
      have g4 : w5.drew.cell? ⟨b, 5 + n * 8 + 4, none⟩ = some (.int .u32 q.time) := (block_cell L5 (5 + n * 8 + 4)).trans ((Ln.getLast (unhide HM) n 4 hf (by omega)).trans (by rw [← unhide Hq]; rfl))
      have z4 := block_free L5 (5 + n * 8 + 4)
      have G4 : w5.cell? ⟨b, 5 + n * 8 + 4, none⟩ = _ := g4
      have Z4 : w5.frozen? ⟨b, 5 + n * 8 + 4, none⟩ = false := z4
      have g5 : w5.drew.cell? ⟨b, 5 + n * 8 + 5, none⟩ = some (.int .u16 q.id) := (block_cell L5 (5 + n * 8 + 5)).trans ((Ln.getLast (unhide HM) n 5 hf (by omega)).trans (by rw [← unhide Hq]; rfl))
      have z5 := block_free L5 (5 + n * 8 + 5)
      have G5 : w5.cell? ⟨b, 5 + n * 8 + 5, none⟩ = _ := g5
      have Z5 : w5.frozen? ⟨b, 5 + n * 8 + 5, none⟩ = false := z5
      have g6 : w5.drew.cell? ⟨b, 5 + n * 8 + 6, none⟩ = some (.int .u8 q.flags) := (block_cell L5 (5 + n * 8 + 6)).trans ((Ln.getLast (unhide HM) n 6 hf (by omega)).trans (by rw [← unhide Hq]; rfl))
      have z6 := block_free L5 (5 + n * 8 + 6)
      have G6 : w5.cell? ⟨b, 5 + n * 8 + 6, none⟩ = _ := g6
      have Z6 : w5.frozen? ⟨b, 5 + n * 8 + 6, none⟩ = false := z6
      have g7 : w5.drew.cell? ⟨b, 5 + n * 8 + 7, none⟩ = some (.string (bs q.body)) := (block_cell L5 (5 + n * 8 + 7)).trans ((Ln.getLast (unhide HM) n 7 hf (by omega)).trans (by rw [← unhide Hq]; rfl))
      have z7 := block_free L5 (5 + n * 8 + 7)
      have G7 : w5.cell? ⟨b, 5 + n * 8 + 7, none⟩ = _ := g7
      have Z7 : w5.frozen? ⟨b, 5 + n * 8 + 7, none⟩ = false := z7
      clear L5
      go_region
      all_goals
        have hnb1 : w.heap.size + 1 ≠ b := by omega
        have hnb2 : w.heap.size + 1 + 1 ≠ b := by omega
        have L6 := (ln_fill (unhide HM) (unhide HK5).ln hf P).drew
        have R6 := at_drew (ln_other (unhide HK5).res hnb1 n P)
        have P6 := at_drew (ln_other (unhide HK5).pk hnb2 n P)
        have O6 := (ln_only (b := b) (Only.of_below (unhide HK5).below) n P).drew
        have HL6 := hide L6
        have HR6 := hide R6
        have HP6 := hide P6
        have HO6 := hide O6
        clear L6 R6 P6 O6 p0 p1 p2 p3 p4 p5 p6 p7 g0 g1 g2 g3 g4 g5 g6 g7 z0 z1 z2 z3 z4 z5 z6 z7 G0 G1 G2 G3 G4 G5 G6 G7 Z0 Z1 Z2 Z3 Z4 Z5 Z6 Z7
        generalize ((((((((w5.setCell ⟨b, 5 + n * 8, none⟩ (.int .u32 P.src)).setCell ⟨b, 5 + n * 8 + 1, none⟩ (.int .u32 P.dst)).setCell ⟨b, 5 + n * 8 + 2, none⟩ (.int .u16 P.port)).setCell ⟨b, 5 + n * 8 + 3, none⟩ (.int .u16 P.seq)).setCell ⟨b, 5 + n * 8 + 4, none⟩ (.int .u32 P.time)).setCell ⟨b, 5 + n * 8 + 5, none⟩ (.int .u16 P.id)).setCell ⟨b, 5 + n * 8 + 6, none⟩ (.int .u8 P.flags)).setCell ⟨b, 5 + n * 8 + 7, none⟩ (.string (bs P.body))).drew = w6 at HL6 HR6 HP6 HO6 ⊢
        obtain ⟨PC, hPC⟩ : ∃ PC, PC = P.cells := ⟨_, rfl⟩
        rw [← hPC] at HP6
        have HPC := hide hPC
        have PI := hide (show (Try.prog.info? 51).map (·.size) = some PC.size by rw [hPC]; exact infoPk)
        have PS := hide (show zeroP.cells.size = PC.size by rw [hPC]; rfl)
        have PO := hide (show PC.all (·.oneCell') = true by rw [hPC]; exact Pk.cells_one _)
        clear hPC
        go_wp2_with (first
          | (refine load_whole (ty := 51) rfl (unhide HP6) Try.underlying51 rfl (unhide PI) ?_)
          | (refine store_whole (ty := 51) rfl rfl (unhide HR6) (unhide PI) (unhide PS) (unhide PO) ?_))
        exact ret_whole (cs := PC) Try.results39 rfl (setRow_heap _ _ _ _ _ _ (unhide HR6)) Try.underlying51 rfl (unhide PI) rfl ⟨by rw [unhide HPC], by rw [LnAt, setRow_other _ _ _ _ (by omega)]; exact unhide HL6, (unhide HO6).new (by omega) _⟩

end Go.Proofs.Ytgpojbgjfibblaa.texts
