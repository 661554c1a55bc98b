/-
  The walks of the program's frames taken apart (package frame): readFull, readWhole, read, Read.
  Conditions stand in each theorem.
-/
import Derived.Test.YtgpojbgjfibblabGreatFrEnd
namespace Go.Proofs.YtgpojbgjfibblabGreat.texts
open Go.RowKit
set_option linter.unusedVariables false
attribute [local go_sem ↓] Go.wp_at_zero Go.wp_at_succ
attribute [local go_sem] bs_size be_length bs_append List.length_append bs_extract bs_list

/-- a frame is stored into a block of its own, kept whole -/
def storeFr (v u : Value) : Sem Unit := Instr.storeAt 168 v u
theorem storeFr_eq (v u : Value) : Instr.storeAt 168 v u = storeFr v u := rfl
def FrTo (w : World) (g : Nat) : Prop := ∃ c t, w.heap[g]? = some (.cells c t (0, 0)) ∧ c.size = 13
def GoodFr (C : Array Value) : Prop := C.size = 13 ∧ C.all (·.oneCell') = true
theorem run_storeFr (w : World) (g : Nat) (C : Array Value) (h : FrTo w g) (hC : GoodFr C) : (storeFr (.pointer (some ⟨g, 0, none⟩)) (.agg C)).run Tryz.prog w = .ok () (w.setRow g C) := by
  obtain ⟨s, t, h1, h2⟩ := h
  have h3 := run_storeVar_row (P := Tryz.prog) w g t 168 s C h1 (by rw [infoFr, hC.1]) (by rw [hC.1, h2]) hC.2
  simp only [storeFr, Instr.storeAt, Instr.sureAddr, Sem.run_bind, Sem.run_pure, Result.andThen_ok, h3]
theorem Fr.good (f : Fr) : GoodFr f.cells := ⟨rfl, Fr.cells_one f⟩

/-- a frame and the answer in the blocks that came first -/
structure InF (w : World) (f : Fr) (w1 : World) : Prop where
  one : w1.heap[w.heap.size]? = some (.cells f.cells 168 (0, 0))
  two : w1.heap[w.heap.size + 1]? = some (.cells Fr.zero.cells 168 (0, 0))
  below : Below w.heap.size w w1
theorem InF.start (w : World) (f : Fr) : InF w f ((w.alloc (.cells f.cells 168)).alloc (.cells Fr.zero.cells 168)) :=
  ⟨block_alloc (heap_alloc_new w _) _, by have := heap_alloc_new (w.alloc (.cells f.cells 168)) (.cells Fr.zero.cells 168); simpa using this, ((Below.refl _ _).alloc (Nat.le_refl _) _).alloc (by simp) _⟩
theorem InF.call {w w1 w2 : World} {f : Fr} (h : InF w f w1) (hb : Below w1.heap.size w1 w2) : InF w f w2 :=
  ⟨block_keep h.one hb, block_keep h.two hb, keep_below h.below hb (Nat.le_of_lt (block_lt h.one))⟩
theorem InF.alloc {w w1 : World} {f : Fr} (h : InF w f w1) (o : Obj) : InF w f (w1.alloc o) := h.call ((Below.refl _ _).alloc (Nat.le_refl _) _)
theorem InF.drew {w w1 : World} {f : Fr} (h : InF w f w1) : InF w f w1.drew := ⟨h.one, h.two, h.below.drew⟩
theorem InF.to {w w1 : World} {f : Fr} (h : InF w f w1) : FrTo w1 (w.heap.size + 1) := ⟨_, _, h.two, rfl⟩
theorem InF.ret {fn : Func} {q : Tmp} {a : Act} {w w1 : World} {f : Fr} {R : Ending → World → Prop} {p : Tmp} {C : Array Value}
    (h : InF w f w1) (hC : GoodFr C) (hr : fn.results = #[.cell p 168, .tmp q]) (hp : a.tmps.getD p undef = .pointer (some ⟨w.heap.size + 1, 0, none⟩)) (hf : a.defers = [])
    (hR : Below w.heap.size w (w1.setRow (w.heap.size + 1) C) → R (.returned (.tuple #[.agg C, a.tmps.getD q undef])) (w1.setRow (w.heap.size + 1) C)) : bodyPost Tryz.prog fn R .ret a (w1.setRow (w.heap.size + 1) C) :=
  ret_whole2 hr hp (setRow_heap _ _ _ _ _ _ h.two) Tryz.underlying168 rfl (by rw [infoFr, hC.1]) hf (hR (below_setRow h.below (by omega) _))
set_option maxRecDepth 100000 in
set_option maxHeartbeats 1000000 in
theorem ffull_few (f : Fr) (t : List UInt8) (w : World) (h0 : t.length < 9) :
    Calls Tryz.prog 125 #[.agg f.cells, .string (bs t)] w fun e w' => e = .returned (.tuple #[.agg Fr.zero.cells, .bool false]) ∧ Below w.heap.size w w' := by
  unfold Fr.cells
  go_enter Tryz.func125, Tryz.ntmps125
  go_wp2
  refine bodyPost_ret (v := .tuple #[.agg Fr.zero.cells, .bool false]) ?_ rfl ⟨rfl, ((Below.refl _ _).alloc (Nat.le_refl _) _).alloc (by simp) _⟩
  simp [results, Tryz.results125, go_sem, Fr.cells, Fr.zero, St.zero, bs]
set_option maxRecDepth 100000 in
set_option maxHeartbeats 1000000 in
theorem fwhole_few (f : Fr) (t : List UInt8) (w : World) (h0 : t.length < 19) :
    Calls Tryz.prog 124 #[.agg f.cells, .string (bs t)] w fun e w' => e = .returned (.tuple #[.agg Fr.zero.cells, .bool false]) ∧ Below w.heap.size w w' := by
  unfold Fr.cells
  go_enter Tryz.func124, Tryz.ntmps124
  go_wp2
  refine bodyPost_ret (v := .tuple #[.agg Fr.zero.cells, .bool false]) ?_ rfl ⟨rfl, ((Below.refl _ _).alloc (Nat.le_refl _) _).alloc (by simp) _⟩
  simp [results, Tryz.results124, go_sem, Fr.cells, Fr.zero, St.zero, bs]

attribute [local go_sem ↓] storeFr_eq
attribute [local go_sem] run_storeFr

set_option maxRecDepth 100000 in
set_option maxHeartbeats 4000000 in
theorem ffull_any (f : Fr) (t : List UInt8) (w : World) (ht : t.length ≤ 9223372036854775807) :
    Calls Tryz.prog 125 #[.agg f.cells, .string (bs t)] w fun e w' => e = .returned (.tuple #[.agg (frOf (fullO f t)).cells, .bool (fullO f t).isSome]) ∧ Below w.heap.size w w' := by
  have HI := hide (InF.start w f)
  by_cases h0 : t.length < 9
  · have e : fullO f t = none := by unfold fullO; rw [if_pos h0]
    rw [e]
    exact ffull_few f t w h0
  · have h8 : 8 < t.length := by omega
    have hq : t[8].toNat = byteN t 8 := by unfold byteN; rw [List.getElem?_eq_getElem h8]; rfl
    obtain ⟨q, hq'⟩ : ∃ q, q = fieldsP t (byteN t 8) := ⟨_, rfl⟩
    have hqo : q.ok := by rw [hq']; exact fieldsP_ok _ _ (byteN_lt _ _)
    have e : fullO f t = endO f q (t.drop 9) := by unfold fullO; rw [if_neg h0, hq']
    have HR := hide (show ∀ w : World, Calls Tryz.prog 138 #[.string (bs t)] w fun e w' => e = .returned (.agg q.cells) ∧ Below w.heap.size w w' by
      intro w
      have := wreadFields_any t w (by omega) ht
      rw [hq, ← hq'] at this
      exact this)
    rw [e]
    have HQ := hide hqo
    have hdl : t.take t.length = t := List.take_length
    have g9 : (9 : Int) ≤ (t.length : Int) := by omega
    obtain ⟨R, hR⟩ : ∃ R, R = (frOf (endO f q (t.drop 9))).cells := ⟨_, rfl⟩
    have gR : GoodFr R := by rw [hR]; exact Fr.good _
    obtain ⟨b, hb⟩ : ∃ b, b = (endO f q (t.drop 9)).isSome := ⟨_, rfl⟩
    rw [← hR, ← hb]
    have HE := hide (show ∀ w : World, Calls Tryz.prog 137 #[.agg f.cells, .agg q.cells, .string (bs (t.drop 9))] w fun e w' => e = .returned (.tuple #[.agg R, .bool b]) ∧ Below w.heap.size w w' by
      intro w
      rw [hR, hb]
      exact fend_any f q (t.drop 9) w hqo (by simp; omega))
    clear hR hb e hq' hq hqo
    unfold Fr.cells
    go_enter Tryz.func125, Tryz.ntmps125
    go_wp2_with (go_at_call 138; refine (unhide HR _).mono ?_; unfold Pk.cells; rintro e w1 ⟨rfl, hb1⟩; have K := (unhide HI).call hb1; obtain ⟨c0, c1, c2, c3, c4, c5, c6, c7, c8, c9, c10, c11, c12⟩ := fr_cells K.one; have hz := block_lt K.one; have HK := hide K; clear K hb1)
    go_region_with ((go_at_call 137; refine (unhide HE _).mono ?_; rintro e w2 ⟨rfl, hb2⟩; have K : InF w f w2 := InF.call (by first | exact (unhide HK).alloc _ | exact ((unhide HK).alloc _).drew | exact ((unhide HK).alloc _).drew.drew) hb2; have gt := K.to; have HK2 := hide K; clear K hb2))
    all_goals go_wp2
    all_goals exact (unhide HK2).ret gR Tryz.results125 rfl rfl (fun hb => ⟨rfl, hb⟩)

/-- the route is written into a frame -/
theorem route_block {w : World} {g : Nat} {f : Fr} {t : TypeId} (h : w.heap[g]? = some (.cells f.cells t (0, 0))) (a b c : Nat) :
    (((w.setCell ⟨g, 3, none⟩ (.int .u32 a)).setCell ⟨g, 4, none⟩ (.int .u32 b)).setCell ⟨g, 5, none⟩ (.int .u16 c)).heap[g]? = some (.cells (Fr.cells { f with src := a, dst := b, port := c }) t (0, 0)) := by
  have h0 := heap_setCell_same w g 3 _ t (.int .u32 a) h
  have h1 := heap_setCell_same _ g 4 _ t (.int .u32 b) h0
  have h2 := heap_setCell_same _ g 5 _ t (.int .u16 c) h1
  rw [h2]
  simp only [Fr.cells, List.setIfInBounds_toArray, List.set_cons_zero, List.set_cons_succ]
theorem InF.route {w w1 : World} {f : Fr} (h : InF w f w1) (a b c : Nat) : InF w { f with src := a, dst := b, port := c } (((w1.setCell ⟨w.heap.size, 3, none⟩ (.int .u32 a)).setCell ⟨w.heap.size, 4, none⟩ (.int .u32 b)).setCell ⟨w.heap.size, 5, none⟩ (.int .u16 c)) := by
  refine ⟨route_block h.one a b c, ?_, ((h.below.setCell (Nat.le_refl _) _).setCell (Nat.le_refl _) _).setCell (Nat.le_refl _) _⟩
  have hk : w.heap.size + 1 ≠ w.heap.size := by omega
  rw [Below.heap_setCell _ _ _ _ (by exact hk), Below.heap_setCell _ _ _ _ (by exact hk), Below.heap_setCell _ _ _ _ (by exact hk)]
  exact h.two

set_option maxRecDepth 100000 in
set_option maxHeartbeats 4000000 in
theorem fwhole_any (f : Fr) (t : List UInt8) (w : World) (ht : t.length ≤ 9223372036854775807) :
    Calls Tryz.prog 124 #[.agg f.cells, .string (bs t)] w fun e w' => e = .returned (.tuple #[.agg (frOf (wholeO f t)).cells, .bool (wholeO f t).isSome]) ∧ Below w.heap.size w w' := by
  have HI := hide (InF.start w f)
  by_cases h0 : t.length < 19
  · have e : wholeO f t = none := by unfold wholeO; rw [if_pos h0]
    rw [e]
    exact fwhole_few f t w h0
  · obtain ⟨q, hq'⟩ : ∃ q, q = bodyless (seemP t) := ⟨_, rfl⟩
    have hqo : q.ok := by rw [hq']; exact bodyless_ok (seem_ok t)
    obtain ⟨f2, hf2⟩ : ∃ f2, f2 = ({ f with src := q.src, dst := q.dst, port := q.port } : Fr) := ⟨_, rfl⟩
    have e : wholeO f t = endO f2 q (t.drop 19) := by unfold wholeO; rw [if_neg h0, hf2, hq']; rfl
    have HR := hide (show ∀ w : World, Calls Tryz.prog 136 #[.string (bs t)] w fun e w' => e = .returned (.agg q.cells) ∧ Below w.heap.size w w' by
      intro w
      rw [hq']
      exact wreadHeader_any t w (by omega) ht)
    rw [e]
    have HQ := hide hqo
    have hdl : t.take t.length = t := List.take_length
    have g9 : (19 : Int) ≤ (t.length : Int) := by omega
    obtain ⟨R, hR⟩ : ∃ R, R = (frOf (endO f2 q (t.drop 19))).cells := ⟨_, rfl⟩
    have gR : GoodFr R := by rw [hR]; exact Fr.good _
    obtain ⟨b, hb⟩ : ∃ b, b = (endO f2 q (t.drop 19)).isSome := ⟨_, rfl⟩
    rw [← hR, ← hb]
    have HE := hide (show ∀ w : World, Calls Tryz.prog 137 #[.agg f2.cells, .agg q.cells, .string (bs (t.drop 19))] w fun e w' => e = .returned (.tuple #[.agg R, .bool b]) ∧ Below w.heap.size w w' by
      intro w
      rw [hR, hb]
      exact fend_any f2 q (t.drop 19) w hqo (by simp; omega))
    have HF2 := hide hf2
    clear hR hb e hq' hqo hf2
    unfold Fr.cells
    go_enter Tryz.func124, Tryz.ntmps124
    go_upto_region 4 with (go_at_call 136; refine (unhide HR _).mono ?_; unfold Pk.cells; rintro e w1 ⟨rfl, hb1⟩; have K := (unhide HI).call hb1; obtain ⟨c0, c1, c2, c3, c4, c5, c6, c7, c8, c9, c10, c11, c12⟩ := fr_cells K.one; obtain ⟨d0, d1, d2, d3, d4, d5, d6, d7, d8, d9, d10, d11, d12⟩ := fr_free K.one; have hz := block_lt K.one; have HK := hide K; clear K hb1)
    go_upto_region 5 with fail
    have K := (unhide HK).route q.src q.dst q.port
    rw [← unhide HF2] at K
    have hsz : (((w1.setCell ⟨w.heap.size, 3, none⟩ (.int .u32 q.src)).setCell ⟨w.heap.size, 4, none⟩ (.int .u32 q.dst)).setCell ⟨w.heap.size, 5, none⟩ (.int .u16 q.port)).heap.size = w1.heap.size := by simp
    clear c0 c1 c2 c3 c4 c5 c6 c7 c8 c9 c10 c11 c12 d0 d1 d2 d3 d4 d5 d6 d7 d8 d9 d10 d11 d12 hz HK
    generalize ((w1.setCell ⟨w.heap.size, 3, none⟩ (.int .u32 q.src)).setCell ⟨w.heap.size, 4, none⟩ (.int .u32 q.dst)).setCell ⟨w.heap.size, 5, none⟩ (.int .u16 q.port) = w2 at K hsz ⊢
    rw [← hsz]
    clear hsz
    obtain ⟨c0, c1, c2, c3, c4, c5, c6, c7, c8, c9, c10, c11, c12⟩ := fr_cells K.one
    have hz := block_lt K.one
    have HK := hide K
    clear K
    go_region_with ((go_at_call 137; refine (unhide HE _).mono ?_; rintro e w3 ⟨rfl, hb2⟩; have K : InF w f2 w3 := InF.call (by first | exact (unhide HK).alloc _ | exact ((unhide HK).alloc _).drew | exact ((unhide HK).alloc _).drew.drew) hb2; have gt := K.to; have HK2 := hide K; clear K hb2))
    all_goals go_wp2
    all_goals exact (unhide HK2).ret gR Tryz.results124 rfl rfl (fun hb => ⟨rfl, hb⟩)

set_option maxRecDepth 100000 in
set_option maxHeartbeats 4000000 in
theorem finner_any (f : Fr) (t : List UInt8) (w : World) (hk : f.kind < 4) (ht : t.length ≤ 9223372036854775807) :
    Calls Tryz.prog 112 #[.agg f.cells, .string (bs t)] w fun e w' => e = .returned (.tuple #[.agg (frOf (innerO f t)).cells, .bool (innerO f t).isSome]) ∧ Below w.heap.size w w' := by
  have HI := hide (InF.start w f)
  obtain ⟨R, hR⟩ : ∃ R, R = (frOf (innerO f t)).cells := ⟨_, rfl⟩
  have gR : GoodFr R := by rw [hR]; exact Fr.good _
  obtain ⟨b, hb⟩ : ∃ b, b = (innerO f t).isSome := ⟨_, rfl⟩
  rw [← hR, ← hb]
  have HR := hide hR
  have HB := hide hb
  clear hR hb
  obtain h | h | h | h : f.kind = 3 ∨ f.kind = 2 ∨ f.kind = 1 ∨ f.kind = 0 := by omega
  · have e : innerO f t = wholeO f t := by unfold innerO; rw [if_pos h]
    rw [e] at HR HB
    have HE := hide (show ∀ w : World, Calls Tryz.prog 124 #[.agg f.cells, .string (bs t)] w fun e w' => e = .returned (.tuple #[.agg R, .bool b]) ∧ Below w.heap.size w w' by
      intro w; rw [unhide HR, unhide HB]; exact fwhole_any f t w ht)
    clear e HR HB
    unfold Fr.cells
    go_enter Tryz.func112, Tryz.ntmps112
    rw [h]
    go_wp2_with (go_at_call 124; refine (by have := unhide HE; unfold Fr.cells at this; rw [h] at this; exact this _ : Calls _ _ _ _ _).mono ?_; rintro e w3 ⟨rfl, hb2⟩; have K : InF w f w3 := InF.call (by have := unhide HI; unfold Fr.cells at this; rw [h] at this; exact this) hb2; have gt := K.to; have HK2 := hide K; clear K hb2)
    exact (unhide HK2).ret gR Tryz.results112 rfl rfl (fun hb => ⟨rfl, hb⟩)
  · have e : innerO f t = fullO f t := by unfold innerO; rw [if_neg (by omega), if_pos h]
    rw [e] at HR HB
    have HE := hide (show ∀ w : World, Calls Tryz.prog 125 #[.agg f.cells, .string (bs t)] w fun e w' => e = .returned (.tuple #[.agg R, .bool b]) ∧ Below w.heap.size w w' by
      intro w; rw [unhide HR, unhide HB]; exact ffull_any f t w ht)
    clear e HR HB
    unfold Fr.cells
    go_enter Tryz.func112, Tryz.ntmps112
    rw [h]
    go_wp2_with (go_at_call 125; refine (by have := unhide HE; unfold Fr.cells at this; rw [h] at this; exact this _ : Calls _ _ _ _ _).mono ?_; rintro e w3 ⟨rfl, hb2⟩; have K : InF w f w3 := InF.call (by have := unhide HI; unfold Fr.cells at this; rw [h] at this; exact this) hb2; have gt := K.to; have HK2 := hide K; clear K hb2)
    exact (unhide HK2).ret gR Tryz.results112 rfl rfl (fun hb => ⟨rfl, hb⟩)
  · have e : innerO f t = shortO f t := by unfold innerO; rw [if_neg (by omega), if_neg (by omega), if_pos h]
    rw [e] at HR HB
    have HE := hide (show ∀ w : World, Calls Tryz.prog 126 #[.agg f.cells, .string (bs t)] w fun e w' => e = .returned (.tuple #[.agg R, .bool b]) ∧ Below w.heap.size w w' by
      intro w; rw [unhide HR, unhide HB]; exact fshort_any f t w ht)
    clear e HR HB
    unfold Fr.cells
    go_enter Tryz.func112, Tryz.ntmps112
    rw [h]
    go_wp2_with (go_at_call 126; refine (by have := unhide HE; unfold Fr.cells at this; rw [h] at this; exact this _ : Calls _ _ _ _ _).mono ?_; rintro e w3 ⟨rfl, hb2⟩; have K : InF w f w3 := InF.call (by have := unhide HI; unfold Fr.cells at this; rw [h] at this; exact this) hb2; have gt := K.to; have HK2 := hide K; clear K hb2)
    exact (unhide HK2).ret gR Tryz.results112 rfl rfl (fun hb => ⟨rfl, hb⟩)
  · have e : innerO f t = tinyO f t := by unfold innerO; rw [if_neg (by omega), if_neg (by omega), if_neg (by omega)]
    rw [e] at HR HB
    have HE := hide (show ∀ w : World, Calls Tryz.prog 127 #[.agg f.cells, .string (bs t)] w fun e w' => e = .returned (.tuple #[.agg R, .bool b]) ∧ Below w.heap.size w w' by
      intro w; rw [unhide HR, unhide HB]; exact ftiny_any f t w ht)
    clear e HR HB
    unfold Fr.cells
    go_enter Tryz.func112, Tryz.ntmps112
    rw [h]
    go_wp2_with (go_at_call 127; refine (by have := unhide HE; unfold Fr.cells at this; rw [h] at this; exact this _ : Calls _ _ _ _ _).mono ?_; rintro e w3 ⟨rfl, hb2⟩; have K : InF w f w3 := InF.call (by have := unhide HI; unfold Fr.cells at this; rw [h] at this; exact this) hb2; have gt := K.to; have HK2 := hide K; clear K hb2)
    exact (unhide HK2).ret gR Tryz.results112 rfl rfl (fun hb => ⟨rfl, hb⟩)

end Go.Proofs.YtgpojbgjfibblabGreat.texts
