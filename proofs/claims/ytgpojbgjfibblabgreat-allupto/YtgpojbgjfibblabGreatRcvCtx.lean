/-
  The walks of the program's receiver (package receiver): Packet (package state), follow, refusal.
  Conditions stand in each theorem.
-/
import Derived.Test.YtgpojbgjfibblabGreatRcvWalk
namespace Go.Proofs.YtgpojbgjfibblabGreat.texts
open Go.RowKit
set_option linter.unusedVariables false
attribute [local go_sem ↓] Go.wp_at_zero Go.wp_at_succ
attribute [local go_sem] bs_size be_length bs_append List.length_append

/-- a state, a route and the answer in the blocks that came first -/
structure InP (w : World) (s : St) (a b c : Nat) (w1 : World) : Prop where
  st : w1.heap[w.heap.size]? = some (.cells s.cells 72 (0, 0))
  rt : w1.heap[w.heap.size + 1]? = some (.cells #[.int .u32 a, .int .u32 b, .int .u16 c] 41 (0, 0))
  pk : ∃ z : Array Value, w1.heap[w.heap.size + 1 + 1]? = some (.cells z 43 (0, 0)) ∧ z.size = 8
  below : Below w.heap.size w w1
theorem InP.start (w : World) (s : St) (a b c : Nat) : InP w s a b c (((w.alloc (.cells s.cells 72)).alloc (.cells #[.int .u32 a, .int .u32 b, .int .u16 c] 41)).alloc (.cells zeroP.cells 43)) :=
  ⟨block_alloc (block_alloc (heap_alloc_new w _) _) _, second_alloc w _ _ _, ⟨_, third_alloc w _ _ _, rfl⟩, (((Below.refl _ _).alloc (Nat.le_refl _) _).alloc (by simp) _).alloc (by simp; omega) _⟩
theorem InP.call {w w1 w2 : World} {s : St} {a b c : Nat} (h : InP w s a b c w1) (hb : Below w1.heap.size w1 w2) : InP w s a b c w2 :=
  ⟨block_keep h.st hb, block_keep h.rt hb, by obtain ⟨z, h1, h2⟩ := h.pk; exact ⟨z, block_keep h1 hb, h2⟩, keep_below h.below hb (Nat.le_of_lt (block_lt h.st))⟩
theorem InP.drew {w w1 : World} {s : St} {a b c : Nat} (h : InP w s a b c w1) : InP w s a b c w1.drew := ⟨h.st, h.rt, h.pk, h.below.drew⟩
theorem InP.put {w w1 : World} {s : St} {a b c : Nat} (h : InP w s a b c w1) {C : Array Value} (hC : C.size = 8) : InP w s a b c (w1.setRow (w.heap.size + 1 + 1) C) := by
  obtain ⟨z, h1, h2⟩ := h.pk
  exact ⟨by rw [setRow_other _ _ _ _ (by omega)]; exact h.st, by rw [setRow_other _ _ _ _ (by omega)]; exact h.rt, ⟨C, setRow_heap _ _ _ _ _ _ h1, hC⟩, below_setRow h.below (by omega) _⟩
theorem InP.to {w w1 : World} {s : St} {a b c : Nat} (h : InP w s a b c w1) : PkTo w1 (w.heap.size + 1 + 1) := by
  obtain ⟨z, h1, h2⟩ := h.pk
  exact ⟨z, _, h1, h2⟩
theorem InP.out {w w1 : World} {s : St} {a b c : Nat} (h : InP w s a b c w1) :
    w1.cell? ⟨w.heap.size, 0, none⟩ = some (.int .u16 s.seq) ∧ w1.cell? ⟨w.heap.size, 1, none⟩ = some (.int .u16 s.stride) ∧ w1.cell? ⟨w.heap.size, 2, none⟩ = some (.int .u16 s.offset) ∧ w1.cell? ⟨w.heap.size, 3, none⟩ = some (.int .u32 s.lag) ∧ w1.cell? ⟨w.heap.size, 4, none⟩ = some (.int .u8 s.flags) ∧ w1.cell? ⟨w.heap.size + 1, 0, none⟩ = some (.int .u32 a) ∧ w1.cell? ⟨w.heap.size + 1, 1, none⟩ = some (.int .u32 b) ∧ w1.cell? ⟨w.heap.size + 1, 2, none⟩ = some (.int .u16 c) ∧ PkTo w1 (w.heap.size + 1 + 1) ∧ InP w s a b c w1 := by
  obtain ⟨s0, s1, s2, s3, s4⟩ := st_cells h.st
  exact ⟨s0, s1, s2, s3, s4, block_cell h.rt 0, block_cell h.rt 1, block_cell h.rt 2, h.to, h⟩
theorem id_wrap (a b : Nat) : IntKind.u16.wrap ((a : Int) + b) = (((a + b) % 65536 : Nat) : Int) := by rw [IntKind.wrap_u16]; omega

section
attribute [local go_sem ↓] storePk_eq
attribute [local go_sem] run_storePk

set_option maxRecDepth 100000 in
set_option maxHeartbeats 2000000 in
theorem spacket_any (s : St) (a b c : Nat) (body : List UInt8) (w : World) (hs : s.ok) :
    Calls Tryz.prog 89 #[.agg s.cells, .agg #[.int .u32 a, .int .u32 b, .int .u16 c], .string (bs body)] w fun e w' => e = .returned (.agg (packetN s a b c body).cells) ∧ Below w.heap.size w w' := by
  have HI := hide (InP.start w s a b c)
  have HS := hide hs
  have hw := id_wrap s.offset s.seq
  obtain ⟨P, hP⟩ : ∃ P, P = packetN s a b c body := ⟨_, rfl⟩
  have hC : P.cells = #[.int .u32 a, .int .u32 b, .int .u16 c, .int .u16 s.seq, .int .u32 (timeN s : Nat), .int .u16 (((s.offset + s.seq) % 65536 : Nat) : Int), .int .u8 s.flags, .string (bs body)] := by rw [hP]; rfl
  rw [← hP]
  have HC := hide hC
  have gP : GoodPk #[.int .u32 a, .int .u32 b, .int .u16 c, .int .u16 s.seq, .int .u32 (timeN s : Nat), .int .u16 (((s.offset + s.seq) % 65536 : Nat) : Int), .int .u8 s.flags, .string (bs body)] := by rw [← hC]; exact Pk.good P
  have gP' : GoodPk #[.int .u32 a, .int .u32 b, .int .u16 c, .int .u16 s.seq, .int .u32 (timeN s : Nat), .int .u16 (((s.offset : Int) + (s.seq : Int)) % 65536), .int .u8 s.flags, .string (bs body)] := by
    have e : (((s.offset + s.seq) % 65536 : Nat) : Int) = ((s.offset : Int) + (s.seq : Int)) % 65536 := by omega
    rw [← e]
    exact gP
  clear hs hC hP
  unfold St.cells
  go_enter Tryz.func89, Tryz.ntmps89
  go_wp2_with fail
  go_region_held3 (fun w' => w'.cell? ⟨w.heap.size, 0, none⟩ = some (.int .u16 s.seq) ∧ w'.cell? ⟨w.heap.size, 1, none⟩ = some (.int .u16 s.stride) ∧ w'.cell? ⟨w.heap.size, 2, none⟩ = some (.int .u16 s.offset) ∧ w'.cell? ⟨w.heap.size, 3, none⟩ = some (.int .u32 s.lag) ∧ w'.cell? ⟨w.heap.size, 4, none⟩ = some (.int .u8 s.flags) ∧ w'.cell? ⟨w.heap.size + 1, 0, none⟩ = some (.int .u32 a) ∧ w'.cell? ⟨w.heap.size + 1, 1, none⟩ = some (.int .u32 b) ∧ w'.cell? ⟨w.heap.size + 1, 2, none⟩ = some (.int .u16 c) ∧ PkTo w' (w.heap.size + 1 + 1) ∧ InP w s a b c w')
    ((first | (exact (unhide HI).drew.out) | (exact (InP.call (unhide HI).drew hbel).out) | (exact (InP.call (by go_split_ands; assumption) hbel).out) | (exact (InP.put (unhide (by assumption : Hid (InP w s a b c _))) (by rfl)).out) | (exact (InP.put (by go_split_ands; assumption) (by rfl)).out)))
    ((go_at_call 101; refine (time_any s _ (unhide HS)).mono ?_; rintro e w1 ⟨rfl, hbel⟩; have HK := hide (InP.call (unhide HI).drew hbel)))
  all_goals go_split_ands
  all_goals go_wp2_with fail
  all_goals
    have hfin : #[.int .u32 a, .int .u32 b, .int .u16 c, .int .u16 s.seq, .int .u32 (timeN s : Nat), .int .u16 (((s.offset : Int) + (s.seq : Int)) % 65536), .int .u8 s.flags, .string (bs body)] = P.cells := by
      have e : (((s.offset + s.seq) % 65536 : Nat) : Int) = ((s.offset : Int) + (s.seq : Int)) % 65536 := by omega
      rw [unhide HC, e]
    rw [hfin]
    obtain ⟨z, hz1, hz2⟩ := (unhide HK).pk
    exact ret_whole Tryz.results89 rfl (setRow_heap _ _ _ _ _ _ hz1) Tryz.underlying43 rfl infoPk rfl ⟨rfl, below_setRow (unhide HK).below (by omega) _⟩
end

theorem infoRx : (Tryz.prog.info? 84).map (·.size) = some 11 := by kernel_rfl
theorem Rx.cells_one (c : Rx) : c.cells.all (·.oneCell') = true := by
  refine Array.all_eq_true_iff_forall_mem.2 (fun v hv => ?_)
  simp only [Rx.cells, List.mem_toArray, List.mem_cons, List.not_mem_nil, or_false] at hv
  rcases hv with h | h | h | h | h | h | h | h | h | h | h <;> (subst h; rfl)
theorem rx_cells {w : World} {g : Nat} {c : Rx} {t : TypeId} (h : w.heap[g]? = some (.cells c.cells t (0, 0))) :
    w.cell? ⟨g, 0, none⟩ = some (.bool c.begun) ∧ w.cell? ⟨g, 1, none⟩ = some (.int .u32 c.src) ∧ w.cell? ⟨g, 2, none⟩ = some (.int .u32 c.dst) ∧ w.cell? ⟨g, 3, none⟩ = some (.int .u16 c.port) ∧ w.cell? ⟨g, 4, none⟩ = some (.int .u8 c.turn) ∧ w.cell? ⟨g, 5, none⟩ = some (.int .u16 c.st.seq) ∧ w.cell? ⟨g, 6, none⟩ = some (.int .u16 c.st.stride) ∧ w.cell? ⟨g, 7, none⟩ = some (.int .u16 c.st.offset) ∧ w.cell? ⟨g, 8, none⟩ = some (.int .u32 c.st.lag) ∧ w.cell? ⟨g, 9, none⟩ = some (.int .u8 c.st.flags) ∧ w.cell? ⟨g, 10, none⟩ = some (.int .u8 c.missed) := by
  refine ⟨?_, ?_, ?_, ?_, ?_, ?_, ?_, ?_, ?_, ?_, ?_⟩ <;> (rw [block_cell h]; rfl)
theorem fourth_alloc (w : World) (a b c d : Obj) : ((((w.alloc a).alloc b).alloc c).alloc d).heap[w.heap.size + 1 + 1 + 1]? = some d := by
  have := heap_alloc_new (((w.alloc a).alloc b).alloc c) d
  simpa using this
/-- a state is written into a context -/
theorem rx_state {w : World} {g : Nat} {c : Rx} {t : TypeId} (h : w.heap[g]? = some (.cells c.cells t (0, 0))) (n : St) :
    (((((w.setCell ⟨g, 5, none⟩ (.int .u16 n.seq)).setCell ⟨g, 6, none⟩ (.int .u16 n.stride)).setCell ⟨g, 7, none⟩ (.int .u16 n.offset)).setCell ⟨g, 8, none⟩ (.int .u32 n.lag)).setCell ⟨g, 9, none⟩ (.int .u8 n.flags)).heap[g]? = some (.cells (Rx.cells { c with st := n }) t (0, 0)) := by
  have h0 := heap_setCell_same w g 5 _ t (.int .u16 n.seq) h
  have h1 := heap_setCell_same _ g 6 _ t (.int .u16 n.stride) h0
  have h2 := heap_setCell_same _ g 7 _ t (.int .u16 n.offset) h1
  have h3 := heap_setCell_same _ g 8 _ t (.int .u32 n.lag) h2
  have h4 := heap_setCell_same _ g 9 _ t (.int .u8 n.flags) h3
  rw [h4]
  simp only [Rx.cells, List.setIfInBounds_toArray, List.set_cons_zero, List.set_cons_succ]
theorem rx_other {w : World} {g k : Nat} {o : Obj} (h : w.heap[k]? = some o) (hk : k ≠ g) (n : St) :
    (((((w.setCell ⟨g, 5, none⟩ (.int .u16 n.seq)).setCell ⟨g, 6, none⟩ (.int .u16 n.stride)).setCell ⟨g, 7, none⟩ (.int .u16 n.offset)).setCell ⟨g, 8, none⟩ (.int .u32 n.lag)).setCell ⟨g, 9, none⟩ (.int .u8 n.flags)).heap[k]? = some o := by
  rw [Below.heap_setCell _ _ _ _ (by exact hk), Below.heap_setCell _ _ _ _ (by exact hk), Below.heap_setCell _ _ _ _ (by exact hk), Below.heap_setCell _ _ _ _ (by exact hk), Below.heap_setCell _ _ _ _ (by exact hk)]
  exact h
theorem rx_below {B g : Nat} {a w : World} (h : Below B a w) (hg : B ≤ g) (n : St) : Below B a (((((w.setCell ⟨g, 5, none⟩ (.int .u16 n.seq)).setCell ⟨g, 6, none⟩ (.int .u16 n.stride)).setCell ⟨g, 7, none⟩ (.int .u16 n.offset)).setCell ⟨g, 8, none⟩ (.int .u32 n.lag)).setCell ⟨g, 9, none⟩ (.int .u8 n.flags)) :=
  ((((h.setCell hg _).setCell hg _).setCell hg _).setCell hg _).setCell hg _

/-- the context that a frame makes, and the answer, in the blocks that came third and fourth -/
structure InW (w : World) (d : Rx) (w1 : World) : Prop where
  three : w1.heap[w.heap.size + 1 + 1]? = some (.cells Rx.blank.cells 84 (0, 0))
  four : w1.heap[w.heap.size + 1 + 1 + 1]? = some (.cells d.cells 84 (0, 0))
  below : Below w.heap.size w w1
theorem InW.start (w : World) (a b : Obj) (d : Rx) : InW w d ((((w.alloc a).alloc b).alloc (.cells Rx.blank.cells 84)).alloc (.cells d.cells 84)) :=
  ⟨block_alloc (third_alloc w _ _ _) _, fourth_alloc w _ _ _ _, ((((Below.refl _ _).alloc (Nat.le_refl _) _).alloc (by simp) _).alloc (by simp; omega) _).alloc (by simp; omega) _⟩
theorem InW.call {w w1 w2 : World} {d : Rx} (h : InW w d w1) (hb : Below w1.heap.size w1 w2) : InW w d w2 :=
  ⟨block_keep h.three hb, block_keep h.four hb, keep_below h.below hb (by have := block_lt h.three; omega)⟩

set_option maxRecDepth 100000 in
set_option maxHeartbeats 4000000 in
theorem follow_any (c : Rx) (f : Fr) (w : World) (hc : c.ok) (hf : f.ok) :
    Calls Tryz.prog 88 #[.agg c.cells, .agg f.cells] w fun e w' => e = .returned (.agg (followN c f).cells) ∧ Below w.heap.size w w' := by
  have hk := hf.kind
  obtain h | h | h | h : f.kind = 3 ∨ f.kind = 2 ∨ f.kind = 1 ∨ f.kind = 0 := by omega
  · have e : followN c f = ⟨true, f.src, f.dst, f.port, f.turn, f.told, 0⟩ := by unfold followN; simp [h]
    rw [e]
    clear e
    unfold Rx.cells Fr.cells
    go_enter Tryz.func88, Tryz.ntmps88
    rw [h]
    go_wp2
    refine bodyPost_ret (v := .agg (Rx.cells ⟨true, f.src, f.dst, f.port, f.turn, f.told, 0⟩)) ?_ rfl ⟨rfl, ((((Below.refl _ _).alloc (Nat.le_refl _) _).alloc (by simp) _).alloc (by simp; omega) _).alloc (by simp; omega) _⟩
    simp [results, Tryz.results88, go_sem, Rx.cells]
  · have e : followN c f = ⟨true, c.src, c.dst, c.port, f.turn, f.told, 0⟩ := by unfold followN; simp [h]
    rw [e]
    clear e
    unfold Rx.cells Fr.cells
    go_enter Tryz.func88, Tryz.ntmps88
    rw [h]
    go_wp2
    refine bodyPost_ret (v := .agg (Rx.cells ⟨true, c.src, c.dst, c.port, f.turn, f.told, 0⟩)) ?_ rfl ⟨rfl, ((((Below.refl _ _).alloc (Nat.le_refl _) _).alloc (by simp) _).alloc (by simp; omega) _).alloc (by simp; omega) _⟩
    simp [results, Tryz.results88, go_sem, Rx.cells]
  · obtain ⟨n, hn⟩ : ∃ n, n = afterShortN c.st f.told := ⟨_, rfl⟩
    have e : followN c f = ⟨true, c.src, c.dst, c.port, f.turn, n, 0⟩ := by unfold followN; rw [hn]; simp [h]
    rw [e]
    have HN := hide (show ∀ w : World, Calls Tryz.prog 113 #[.agg c.st.cells, .agg f.told.cells] w fun e w' => e = .returned (.agg n.cells) ∧ Below w.heap.size w w' by
      intro w; rw [hn]; exact afterShort_any c.st f.told w hc.st hf.told)
    have HW := hide (InW.start w (.cells c.cells 84) (.cells f.cells 168) ⟨true, c.src, c.dst, c.port, f.turn, f.told, 0⟩)
    obtain ⟨D, hD⟩ : ∃ D, D = Rx.cells ⟨true, c.src, c.dst, c.port, f.turn, n, 0⟩ := ⟨_, rfl⟩
    rw [← hD]
    have HD := hide hD
    clear e hn hD
    unfold Rx.cells Fr.cells
    go_enter Tryz.func88, Tryz.ntmps88
    rw [h]
    go_upto_region 9 with (go_at_call 113; refine (unhide HN _).mono ?_; unfold St.cells; rintro e w1 ⟨rfl, hb1⟩; have K : InW w ⟨true, c.src, c.dst, c.port, f.turn, f.told, 0⟩ w1 := InW.call (by have := unhide HW; unfold Rx.cells Fr.cells at this; rw [h] at this; exact this) hb1; obtain ⟨c0, c1, c2, c3, c4, c5, c6, c7, c8, c9, c10⟩ := rx_cells K.four; have d5 := block_free K.four 5; have d6 := block_free K.four 6; have d7 := block_free K.four 7; have d8 := block_free K.four 8; have d9 := block_free K.four 9; have HK := hide K; clear K hb1)
    have L := hide (rx_state (unhide HK).four n)
    have M := hide (rx_other (unhide HK).three (show w.heap.size + 1 + 1 ≠ w.heap.size + 1 + 1 + 1 by omega) n)
    have W := hide (rx_below (unhide HK).below (show w.heap.size ≤ w.heap.size + 1 + 1 + 1 by omega) n)
    generalize ((((w1.setCell ⟨w.heap.size + 1 + 1 + 1, 5, none⟩ (.int .u16 n.seq)).setCell ⟨w.heap.size + 1 + 1 + 1, 6, none⟩ (.int .u16 n.stride)).setCell ⟨w.heap.size + 1 + 1 + 1, 7, none⟩ (.int .u16 n.offset)).setCell ⟨w.heap.size + 1 + 1 + 1, 8, none⟩ (.int .u32 n.lag)).setCell ⟨w.heap.size + 1 + 1 + 1, 9, none⟩ (.int .u8 n.flags) = w2 at L M W ⊢
    simp only at L
    rw [← unhide HD] at L
    have Hi := hide (show (Tryz.prog.info? 84).map (·.size) = some D.size by rw [unhide HD]; exact infoRx)
    have Ho := hide (show D.all (·.oneCell') = true by rw [unhide HD]; exact Rx.cells_one _)
    have Hs := hide (show Rx.blank.cells.size = D.size by rw [unhide HD]; rfl)
    clear c0 c1 c2 c3 c4 c5 c6 c7 c8 c9 c10 d5 d6 d7 d8 d9
    go_wp2_with (first
      | (refine load_whole (ty := 84) rfl (unhide L) Tryz.underlying84 rfl (unhide Hi) ?_)
      | (refine store_whole (ty := 84) rfl rfl (unhide M) (unhide Hi) (unhide Hs) (unhide Ho) ?_))
    exact ret_whole Tryz.results88 rfl (setRow_heap _ _ _ _ _ _ (unhide M)) Tryz.underlying84 rfl (unhide Hi) rfl ⟨rfl, below_setRow (unhide W) (by omega) _⟩
  · obtain ⟨n, hn⟩ : ∃ n, n = afterTinyN c.st f.told := ⟨_, rfl⟩
    have e : followN c f = ⟨true, c.src, c.dst, c.port, f.turn, n, 0⟩ := by unfold followN; rw [hn]; simp [h]
    rw [e]
    have HN := hide (show ∀ w : World, Calls Tryz.prog 114 #[.agg c.st.cells, .agg f.told.cells] w fun e w' => e = .returned (.agg n.cells) ∧ Below w.heap.size w w' by
      intro w; rw [hn]; exact afterTiny_any c.st f.told w hc.st hf.told)
    have HW := hide (InW.start w (.cells c.cells 84) (.cells f.cells 168) ⟨true, c.src, c.dst, c.port, f.turn, f.told, 0⟩)
    obtain ⟨D, hD⟩ : ∃ D, D = Rx.cells ⟨true, c.src, c.dst, c.port, f.turn, n, 0⟩ := ⟨_, rfl⟩
    rw [← hD]
    have HD := hide hD
    clear e hn hD
    unfold Rx.cells Fr.cells
    go_enter Tryz.func88, Tryz.ntmps88
    rw [h]
    go_upto_region 9 with (go_at_call 114; refine (unhide HN _).mono ?_; unfold St.cells; rintro e w1 ⟨rfl, hb1⟩; have K : InW w ⟨true, c.src, c.dst, c.port, f.turn, f.told, 0⟩ w1 := InW.call (by have := unhide HW; unfold Rx.cells Fr.cells at this; rw [h] at this; exact this) hb1; obtain ⟨c0, c1, c2, c3, c4, c5, c6, c7, c8, c9, c10⟩ := rx_cells K.four; have d5 := block_free K.four 5; have d6 := block_free K.four 6; have d7 := block_free K.four 7; have d8 := block_free K.four 8; have d9 := block_free K.four 9; have HK := hide K; clear K hb1)
    have L := hide (rx_state (unhide HK).four n)
    have M := hide (rx_other (unhide HK).three (show w.heap.size + 1 + 1 ≠ w.heap.size + 1 + 1 + 1 by omega) n)
    have W := hide (rx_below (unhide HK).below (show w.heap.size ≤ w.heap.size + 1 + 1 + 1 by omega) n)
    generalize ((((w1.setCell ⟨w.heap.size + 1 + 1 + 1, 5, none⟩ (.int .u16 n.seq)).setCell ⟨w.heap.size + 1 + 1 + 1, 6, none⟩ (.int .u16 n.stride)).setCell ⟨w.heap.size + 1 + 1 + 1, 7, none⟩ (.int .u16 n.offset)).setCell ⟨w.heap.size + 1 + 1 + 1, 8, none⟩ (.int .u32 n.lag)).setCell ⟨w.heap.size + 1 + 1 + 1, 9, none⟩ (.int .u8 n.flags) = w2 at L M W ⊢
    simp only at L
    rw [← unhide HD] at L
    have Hi := hide (show (Tryz.prog.info? 84).map (·.size) = some D.size by rw [unhide HD]; exact infoRx)
    have Ho := hide (show D.all (·.oneCell') = true by rw [unhide HD]; exact Rx.cells_one _)
    have Hs := hide (show Rx.blank.cells.size = D.size by rw [unhide HD]; rfl)
    clear c0 c1 c2 c3 c4 c5 c6 c7 c8 c9 c10 d5 d6 d7 d8 d9
    go_wp2_with (first
      | (refine load_whole (ty := 84) rfl (unhide L) Tryz.underlying84 rfl (unhide Hi) ?_)
      | (refine store_whole (ty := 84) rfl rfl (unhide M) (unhide Hi) (unhide Hs) (unhide Ho) ?_))
    exact ret_whole Tryz.results88 rfl (setRow_heap _ _ _ _ _ _ (unhide M)) Tryz.underlying84 rfl (unhide Hi) rfl ⟨rfl, below_setRow (unhide W) (by omega) _⟩

end Go.Proofs.YtgpojbgjfibblabGreat.texts
