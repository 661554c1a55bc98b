/-
  The walks of the program's frames taken apart (package frame): readEnd, readFull, readWhole, read, Read.
  Conditions stand in each theorem.
-/
import Derived.Test.YtgpojbgjfibblabGreatFrRead
namespace Go.Proofs.YtgpojbgjfibblabGreat.texts
open Go.RowKit
set_option linter.unusedVariables false
attribute [local go_sem ↓] Go.wp_at_zero Go.wp_at_succ
attribute [local go_sem] bs_size be_length bs_append List.length_append bs_extract bs_list

theorem infoFr : (Tryz.prog.info? 168).map (·.size) = some 13 := by kernel_rfl
theorem Fr.cells_one (f : Fr) : f.cells.all (·.oneCell') = true := by
  refine Array.all_eq_true_iff_forall_mem.2 (fun v hv => ?_)
  simp only [Fr.cells, List.mem_toArray, List.mem_cons, List.not_mem_nil, or_false] at hv
  rcases hv with h | h | h | h | h | h | h | h | h | h | h | h | h <;> (subst h; rfl)
theorem fr_cells {w : World} {g : Nat} {f : Fr} {t : TypeId} (h : w.heap[g]? = some (.cells f.cells t (0, 0))) :
    w.cell? ⟨g, 0, none⟩ = some (.int .u8 f.kind) ∧ w.cell? ⟨g, 1, none⟩ = some (.int .u8 f.cid) ∧ w.cell? ⟨g, 2, none⟩ = some (.int .u8 f.turn) ∧ w.cell? ⟨g, 3, none⟩ = some (.int .u32 f.src) ∧ w.cell? ⟨g, 4, none⟩ = some (.int .u32 f.dst) ∧ w.cell? ⟨g, 5, none⟩ = some (.int .u16 f.port) ∧ w.cell? ⟨g, 6, none⟩ = some (.int .u16 f.told.seq) ∧ w.cell? ⟨g, 7, none⟩ = some (.int .u16 f.told.stride) ∧ w.cell? ⟨g, 8, none⟩ = some (.int .u16 f.told.offset) ∧ w.cell? ⟨g, 9, none⟩ = some (.int .u32 f.told.lag) ∧ w.cell? ⟨g, 10, none⟩ = some (.int .u8 f.told.flags) ∧ w.cell? ⟨g, 11, none⟩ = some (.int .u8 f.chk) ∧ w.cell? ⟨g, 12, none⟩ = some (.string (bs f.body)) := by
  refine ⟨?_, ?_, ?_, ?_, ?_, ?_, ?_, ?_, ?_, ?_, ?_, ?_, ?_⟩ <;> (rw [block_cell h]; rfl)
/-- a call hands back a struct that lies in a block of its own, and a value -/
theorem ret_whole2 {fn : Func} {p q : Tmp} {ty : TypeId} {d : TypeDesc} {a : Act} {w : World} {g : Nat} {t : TypeId} {cs : Array Value} {R : Ending → World → Prop}
    (h : fn.results = #[.cell p ty, .tmp q]) (hp : a.tmps.getD p undef = .pointer (some ⟨g, 0, none⟩)) (hg : w.heap[g]? = some (.cells cs t (0, 0)))
    (hu : Tryz.prog.underlying ty = some d) (hd : d.isRow = true) (hi : (Tryz.prog.info? ty).map (·.size) = some cs.size) (hf : a.defers = []) (hR : R (.returned (.tuple #[.agg cs, a.tmps.getD q undef])) w) :
    bodyPost Tryz.prog fn R .ret a w := by
  refine bodyPost_ret (v := .tuple #[.agg cs, a.tmps.getD q undef]) ?_ hf hR
  have hp' : a.tmps[p]?.getD undef = .pointer (some ⟨g, 0, none⟩) := by simpa using hp
  have := run_loadVar_mid (P := Tryz.prog) w g 0 ty cs.toList d (range_block hg) hu hd (by rw [hi, Array.length_toList])
  simp [results, h, hp', asAddr, this]

/-- the frame, the packet and the answer in the blocks that came first -/
structure InE (w : World) (f : Fr) (p : Pk) (w1 : World) : Prop where
  one : w1.heap[w.heap.size]? = some (.cells f.cells 168 (0, 0))
  two : w1.heap[w.heap.size + 1]? = some (.cells p.cells 43 (0, 0))
  three : w1.heap[w.heap.size + 1 + 1]? = some (.cells Fr.zero.cells 168 (0, 0))
  below : Below w.heap.size w w1
theorem InE.start (w : World) (f : Fr) (p : Pk) : InE w f p (((w.alloc (.cells f.cells 168)).alloc (.cells p.cells 43)).alloc (.cells Fr.zero.cells 168)) :=
  ⟨block_alloc (block_alloc (heap_alloc_new w _) _) _, second_alloc w _ _ _, third_alloc w _ _ _, (((Below.refl _ _).alloc (Nat.le_refl _) _).alloc (by simp) _).alloc (by simp; omega) _⟩
theorem InE.call {w w1 w2 : World} {f : Fr} {p : Pk} (h : InE w f p w1) (hb : Below w1.heap.size w1 w2) : InE w f p w2 :=
  ⟨block_keep h.one hb, block_keep h.two hb, block_keep h.three hb, keep_below h.below hb (Nat.le_of_lt (block_lt h.one))⟩
theorem InE.drew {w w1 : World} {f : Fr} {p : Pk} (h : InE w f p w1) : InE w f p w1.drew := ⟨h.one, h.two, h.three, h.below.drew⟩

theorem fr_free {w : World} {g : Nat} {z : Array Value} {t : TypeId} (h : w.heap[g]? = some (.cells z t (0, 0))) :
    w.frozen? ⟨g, 0, none⟩ = false ∧ w.frozen? ⟨g, 1, none⟩ = false ∧ w.frozen? ⟨g, 2, none⟩ = false ∧ w.frozen? ⟨g, 3, none⟩ = false ∧ w.frozen? ⟨g, 4, none⟩ = false ∧ w.frozen? ⟨g, 5, none⟩ = false ∧ w.frozen? ⟨g, 6, none⟩ = false ∧ w.frozen? ⟨g, 7, none⟩ = false ∧ w.frozen? ⟨g, 8, none⟩ = false ∧ w.frozen? ⟨g, 9, none⟩ = false ∧ w.frozen? ⟨g, 10, none⟩ = false ∧ w.frozen? ⟨g, 11, none⟩ = false ∧ w.frozen? ⟨g, 12, none⟩ = false :=
  ⟨block_free h 0, block_free h 1, block_free h 2, block_free h 3, block_free h 4, block_free h 5, block_free h 6, block_free h 7, block_free h 8, block_free h 9, block_free h 10, block_free h 11, block_free h 12⟩
/-- the state, the check and the body are written into a frame -/
theorem end_block {w : World} {g : Nat} {f : Fr} {t : TypeId} (h : w.heap[g]? = some (.cells f.cells t (0, 0))) (n : St) (c : Nat) (b : List UInt8) :
    (((((((w.setCell ⟨g, 6, none⟩ (.int .u16 n.seq)).setCell ⟨g, 7, none⟩ (.int .u16 n.stride)).setCell ⟨g, 8, none⟩ (.int .u16 n.offset)).setCell ⟨g, 9, none⟩ (.int .u32 n.lag)).setCell ⟨g, 10, none⟩ (.int .u8 n.flags)).setCell ⟨g, 11, none⟩ (.int .u8 c)).setCell ⟨g, 12, none⟩ (.string (bs b))).heap[g]? = some (.cells (Fr.cells { f with told := n, chk := c, body := b }) t (0, 0)) := by
  have h0 := heap_setCell_same w g 6 _ t (.int .u16 n.seq) h
  have h1 := heap_setCell_same _ g 7 _ t (.int .u16 n.stride) h0
  have h2 := heap_setCell_same _ g 8 _ t (.int .u16 n.offset) h1
  have h3 := heap_setCell_same _ g 9 _ t (.int .u32 n.lag) h2
  have h4 := heap_setCell_same _ g 10 _ t (.int .u8 n.flags) h3
  have h5 := heap_setCell_same _ g 11 _ t (.int .u8 c) h4
  have h6 := heap_setCell_same _ g 12 _ t (.string (bs b)) h5
  rw [h6]
  simp only [Fr.cells, List.setIfInBounds_toArray, List.set_cons_zero, List.set_cons_succ]
theorem end_other {w : World} {g k : Nat} {o : Obj} (h : w.heap[k]? = some o) (hk : k ≠ g) (n : St) (c : Nat) (b : List UInt8) :
    (((((((w.setCell ⟨g, 6, none⟩ (.int .u16 n.seq)).setCell ⟨g, 7, none⟩ (.int .u16 n.stride)).setCell ⟨g, 8, none⟩ (.int .u16 n.offset)).setCell ⟨g, 9, none⟩ (.int .u32 n.lag)).setCell ⟨g, 10, none⟩ (.int .u8 n.flags)).setCell ⟨g, 11, none⟩ (.int .u8 c)).setCell ⟨g, 12, none⟩ (.string (bs b))).heap[k]? = some o := by
  rw [Below.heap_setCell _ _ _ _ (by exact hk), Below.heap_setCell _ _ _ _ (by exact hk), Below.heap_setCell _ _ _ _ (by exact hk), Below.heap_setCell _ _ _ _ (by exact hk), Below.heap_setCell _ _ _ _ (by exact hk), Below.heap_setCell _ _ _ _ (by exact hk), Below.heap_setCell _ _ _ _ (by exact hk)]
  exact h

theorem end_below {B g : Nat} {a w : World} (h : Below B a w) (hg : B ≤ g) (n : St) (c : Nat) (b : List UInt8) :
    Below B a (((((((w.setCell ⟨g, 6, none⟩ (.int .u16 n.seq)).setCell ⟨g, 7, none⟩ (.int .u16 n.stride)).setCell ⟨g, 8, none⟩ (.int .u16 n.offset)).setCell ⟨g, 9, none⟩ (.int .u32 n.lag)).setCell ⟨g, 10, none⟩ (.int .u8 n.flags)).setCell ⟨g, 11, none⟩ (.int .u8 c)).setCell ⟨g, 12, none⟩ (.string (bs b))) :=
  ((((((h.setCell hg _).setCell hg _).setCell hg _).setCell hg _).setCell hg _).setCell hg _).setCell hg _

set_option maxRecDepth 100000 in
set_option maxHeartbeats 4000000 in
theorem fend_any (f : Fr) (p : Pk) (t : List UInt8) (w : World) (hp : p.ok) (ht : t.length ≤ 9223372036854775807) :
    Calls Tryz.prog 137 #[.agg f.cells, .agg p.cells, .string (bs t)] w fun e w' => e = .returned (.tuple #[.agg (frOf (endO f p t)).cells, .bool (endO f p t).isSome]) ∧ Below w.heap.size w w' := by
  by_cases h0 : t.length < 3
  · have e : endO f p t = none := by unfold endO; rw [if_pos h0]
    rw [e]
    unfold Fr.cells Pk.cells
    go_enter Tryz.func137, Tryz.ntmps137
    go_wp2
    refine bodyPost_ret (v := .tuple #[.agg Fr.zero.cells, .bool false]) ?_ rfl ⟨rfl, (((Below.refl _ _).alloc (Nat.le_refl _) _).alloc (by simp) _).alloc (by simp; omega) _⟩
    simp [results, Tryz.results137, go_sem, Fr.cells, Fr.zero, St.zero, bs]
  · have e : endO f p t = some (endF f p t) := by unfold endO; rw [if_neg h0]
    rw [e]
    have s2 : 2 < (bs t).size := by rw [bs_size]; omega
    have b2 := byte_at t 2 (by omega) s2
    have l2 := byteN_lt t 2
    have hdl : t.take t.length = t := List.take_length
    have g2 : (2 : Int) ≤ (t.length : Int) := by omega
    have g3 : (3 : Int) ≤ (t.length : Int) := by omega
    have hS : numOf (t.take 2) < 65536 := numOf_lt' 2 (by simp; omega)
    have hw := wrap16 hS
    have HI := hide (InE.start w f p)
    have HP := hide hp
    obtain ⟨n, hn⟩ : ∃ n, n = stateN p (numOf (t.take 2)) := ⟨_, rfl⟩
    have HN := hide hn
    obtain ⟨R, hR⟩ : ∃ R, R = (frOf (some (endF f p t))).cells := ⟨_, rfl⟩
    have hE : R = Fr.cells { f with told := n, chk := byteN t 2, body := t.drop 3 } := by rw [hR, hn]; rfl
    rw [← hR]
    have HE := hide hE
    clear hE e hp hn hR
    generalize byteN t 2 = B at *
    have HSt := hide hS
    unfold Fr.cells Pk.cells
    go_enter Tryz.func137, Tryz.ntmps137
    go_wp2_with fail
    go_region_with ((first
      | (go_at_call 144; refine (wnumber_any _ _ (by rw [bs_size]; simp; omega)).mono ?_; rintro e w' ⟨rfl, rfl⟩)
      | (go_at_call 70; refine (of_any p _ _ (unhide HP) (unhide HSt)).mono ?_; rw [← unhide HN]; unfold St.cells; rintro e w1 ⟨rfl, hb⟩; have K : InE w f p w1 := InE.call (by first | exact unhide HI | exact (unhide HI).drew | exact (unhide HI).drew.drew) hb; obtain ⟨c0, c1, c2, c3, c4, c5, c6, c7, c8, c9, c10, c11, c12⟩ := fr_cells K.one; obtain ⟨d0, d1, d2, d3, d4, d5, d6, d7, d8, d9, d10, d11, d12⟩ := fr_free K.one; have HK := hide K; clear K hb)))
    all_goals
      go_upto_region 6 with fail
      have L := hide (end_block (unhide HK).one n B (t.drop 3))
      have M := hide (end_other (unhide HK).three (show w.heap.size + 1 + 1 ≠ w.heap.size by omega) n B (t.drop 3))
      have W := hide (end_below (unhide HK).below (Nat.le_refl _) n B (t.drop 3))
      generalize ((((((w1.setCell ⟨w.heap.size, 6, none⟩ (.int .u16 n.seq)).setCell ⟨w.heap.size, 7, none⟩ (.int .u16 n.stride)).setCell ⟨w.heap.size, 8, none⟩ (.int .u16 n.offset)).setCell ⟨w.heap.size, 9, none⟩ (.int .u32 n.lag)).setCell ⟨w.heap.size, 10, none⟩ (.int .u8 n.flags)).setCell ⟨w.heap.size, 11, none⟩ (.int .u8 B)).setCell ⟨w.heap.size, 12, none⟩ (.string (bs (t.drop 3))) = w2 at L M W ⊢
      rw [← unhide HE] at L
      have hi13 : (Tryz.prog.info? 168).map (·.size) = some R.size := by rw [unhide HE]; exact infoFr
      have ho13 : R.all (·.oneCell') = true := by rw [unhide HE]; exact Fr.cells_one _
      have hs13 : Fr.zero.cells.size = R.size := by rw [unhide HE]; rfl
      have Hi13 := hide hi13
      have Ho13 := hide ho13
      have Hs13 := hide hs13
      clear hi13 ho13 hs13 c0 c1 c2 c3 c4 c5 c6 c7 c8 c9 c10 c11 c12 d0 d1 d2 d3 d4 d5 d6 d7 d8 d9 d10 d11 d12
      go_wp2_with (first
        | (refine load_whole (ty := 168) rfl (unhide L) Tryz.underlying168 rfl (unhide Hi13) ?_)
        | (refine store_whole (ty := 168) rfl rfl (unhide M) (unhide Hi13) (unhide Hs13) (unhide Ho13) ?_))
      exact ret_whole2 Tryz.results137 rfl (setRow_heap _ _ _ _ _ _ (unhide M)) Tryz.underlying168 rfl (unhide Hi13) rfl ⟨rfl, below_setRow (unhide W) (by omega) _⟩

end Go.Proofs.YtgpojbgjfibblabGreat.texts
