/-
  The walk of the document's Read (package gistref) where the text has the length that it tells.
  Conditions stand in each theorem.
-/
import Derived.Test.YtgpojbgjfibblaaReads
import Derived.Test.YtgpojbgjfibblaaBlocks
import Derived.Deep.DeepCutAuto
namespace Go.Proofs.Ytgpojbgjfibblaa.texts
open Go.RowKit
set_option linter.unusedVariables false
attribute [local go_sem ↓] Go.wp_at_zero Go.wp_at_succ
attribute [local go_sem] bs_size be_length bs_append List.length_append headL_length restL_length hdrL_length bs_extract bs_list bs_toList

theorem bcell {W w1 : World} (hb : Below W.heap.size W w1) : (∀ b o, b < W.heap.size → w1.cell? ⟨b, o, none⟩ = W.cell? ⟨b, o, none⟩) ∧ (∀ b o, b < W.heap.size → w1.frozen? ⟨b, o, none⟩ = W.frozen? ⟨b, o, none⟩) :=
  ⟨fun b o h => hb.cell (p := ⟨b, o, none⟩) h, fun b o h => hb.frozen (p := ⟨b, o, none⟩) h⟩

/-- the two packets of noughts with which Read begins lie untouched -/
structure Two (w w' : World) : Prop where
  one : w'.heap[w.heap.size]? = some (.cells zeroP.cells 51 (0, 0))
  two : w'.heap[w.heap.size + 1]? = some (.cells zeroP.cells 51 (0, 0))
  below : Below w.heap.size w w'
  size : w.heap.size + 1 < w'.heap.size
theorem two_start0 (w : World) : Two w ((w.alloc (.cells zeroP.cells 51)).alloc (.cells zeroP.cells 51)) := by
  refine ⟨block_alloc (heap_alloc_new w _) _, ?_, ((Below.refl _ _).alloc (Nat.le_refl _) _).alloc (by simp) _, by simp⟩
  have h := heap_alloc_new (w.alloc (.cells zeroP.cells 51)) (.cells zeroP.cells 51)
  simpa using h
theorem two_drew {w w1 : World} (h : Two w w1) : Two w w1.drew := ⟨h.one, h.two, h.below.drew, h.size⟩
theorem two_start (w : World) : Two w ((w.alloc (.cells zeroP.cells 51)).alloc (.cells zeroP.cells 51)).drew := two_drew (two_start0 w)
theorem third_block (w : World) (o1 o2 o3 : Obj) : ((((w.alloc o1).alloc o2).alloc o3).drew).heap[w.heap.size + 1 + 1]? = some o3 := by
  have h := heap_alloc_new ((w.alloc o1).alloc o2) o3
  rw [World.size_alloc, World.size_alloc] at h
  exact h
theorem two_call {w w1 w2 : World} (h : Two w w1) (hb : Below w1.heap.size w1 w2) : Two w w2 :=
  ⟨block_keep h.one hb, block_keep h.two hb, h.below.trans (hb.mono (by have := h.size; omega)), Nat.lt_of_lt_of_le h.size hb.size⟩
theorem two_alloc {w w1 : World} (h : Two w w1) (o : Obj) : Two w (w1.alloc o) :=
  ⟨block_alloc h.one _, block_alloc h.two _, h.below.alloc (by have := h.size; omega) _, by have := h.size; simp; omega⟩
theorem two_swap {w w1 : World} {o : Obj} (h : Two w (w1.alloc o)) (hz : w.heap.size + 1 < w1.heap.size) (o2 : Obj) : Two w (w1.alloc o2) := by
  refine two_alloc ⟨?_, ?_, ?_, hz⟩ o2
  · rw [← Below.heap_alloc w1 o _ (by omega)]; exact h.one
  · rw [← Below.heap_alloc w1 o _ hz]; exact h.two
  · exact ⟨h.below.os, h.below.tape, h.below.output, by omega, fun k hk => by rw [← Below.heap_alloc w1 o _ (by omega)]; exact h.below.block k hk⟩
theorem two_set {w w1 : World} (h : Two w w1) {a : Addr} (ha : w.heap.size + 1 < a.block) (v : Value) : Two w (w1.setCell a v) :=
  ⟨block_set h.one (by omega) _, block_set h.two (by omega) _, h.below.setCell (by omega) _, by simpa using h.size⟩

theorem flat_eq (l : List UInt8) : (seemP l).flat = #[.int .u32 (numOf ((l.take 10).take 4) : Nat), .int .u32 (numOf (((l.take 10).take 8).drop 4) : Nat), .int .u16 (numOf (((l.take 10).take 10).drop 8) : Nat),
    .int .i64 (numOf (((l.take 19).drop 10).take 2) : Nat), .int .i64 (numOf ((((l.take 19).drop 10).take 6).drop 2) : Nat), .int .i64 (numOf ((((l.take 19).drop 10).take 8).drop 6) : Nat), .int .i64 (numOf ((((l.take 19).drop 10).take 9).drop 8) : Nat),
    .string (bs ((l.take (20 + (at19 l : Int)).toNat).drop 20))] := by
  rw [show (20 + (at19 l : Int)).toNat = 20 + at19 l by omega]
  rfl

theorem flat8 {w : World} {g : Nat} {p : Pk} {t : TypeId} (h : w.heap[g]? = some (.cells p.flat t (0, 0))) :
    w.cell? ⟨g, 0, none⟩ = some (.int .u32 p.src) ∧ w.cell? ⟨g, 1, none⟩ = some (.int .u32 p.dst) ∧ w.cell? ⟨g, 2, none⟩ = some (.int .u16 p.port) ∧ w.cell? ⟨g, 3, none⟩ = some (.int .i64 p.seq) ∧
    w.cell? ⟨g, 4, none⟩ = some (.int .i64 p.time) ∧ w.cell? ⟨g, 5, none⟩ = some (.int .i64 p.id) ∧ w.cell? ⟨g, 6, none⟩ = some (.int .i64 p.flags) ∧ w.cell? ⟨g, 7, none⟩ = some (.string (bs p.body)) :=
  ⟨block_cell h 0, block_cell h 1, block_cell h 2, block_cell h 3, block_cell h 4, block_cell h 5, block_cell h 6, block_cell h 7⟩
theorem cells8 {w : World} {g : Nat} {p : Pk} {t : TypeId} (h : w.heap[g]? = some (.cells p.cells t (0, 0))) :
    w.cell? ⟨g, 0, none⟩ = some (.int .u32 p.src) ∧ w.cell? ⟨g, 1, none⟩ = some (.int .u32 p.dst) ∧ w.cell? ⟨g, 2, none⟩ = some (.int .u16 p.port) ∧ w.cell? ⟨g, 3, none⟩ = some (.int .u16 p.seq) ∧
    w.cell? ⟨g, 4, none⟩ = some (.int .u32 p.time) ∧ w.cell? ⟨g, 5, none⟩ = some (.int .u16 p.id) ∧ w.cell? ⟨g, 6, none⟩ = some (.int .u8 p.flags) ∧ w.cell? ⟨g, 7, none⟩ = some (.string (bs p.body)) :=
  ⟨block_cell h 0, block_cell h 1, block_cell h 2, block_cell h 3, block_cell h 4, block_cell h 5, block_cell h 6, block_cell h 7⟩
theorem free8 {w : World} {g : Nat} {z : Array Value} {t : TypeId} (h : w.heap[g]? = some (.cells z t (0, 0))) :
    w.frozen? ⟨g, 0, none⟩ = false ∧ w.frozen? ⟨g, 1, none⟩ = false ∧ w.frozen? ⟨g, 2, none⟩ = false ∧ w.frozen? ⟨g, 3, none⟩ = false ∧ w.frozen? ⟨g, 4, none⟩ = false ∧ w.frozen? ⟨g, 5, none⟩ = false ∧ w.frozen? ⟨g, 6, none⟩ = false ∧ w.frozen? ⟨g, 7, none⟩ = false :=
  ⟨block_free h 0, block_free h 1, block_free h 2, block_free h 3, block_free h 4, block_free h 5, block_free h 6, block_free h 7⟩

theorem read_put (p : Pk) (g : Nat) {B : Nat} {w w2 : World} {z : Array Value} {t : TypeId} (hg : B ≤ g) (hb : Below B w w2) (h : w2.heap[g]? = some (.cells z t (0, 0))) (hz : z.size = 8 := by rfl) :
    ((((((((w2.setCell ⟨g, 0, none⟩ (.int .u32 p.src)).setCell ⟨g, 1, none⟩ (.int .u32 p.dst)).setCell ⟨g, 2, none⟩ (.int .u16 p.port)).setCell ⟨g, 3, none⟩ (.int .u16 p.seq)).setCell ⟨g, 4, none⟩ (.int .u32 p.time)).setCell ⟨g, 5, none⟩ (.int .u16 p.id)).setCell ⟨g, 6, none⟩ (.int .u8 p.flags)).setCell ⟨g, 7, none⟩ (.string (bs p.body))).heap[g]? = some (.cells p.cells t (0, 0)) ∧
    Below B w ((((((((w2.setCell ⟨g, 0, none⟩ (.int .u32 p.src)).setCell ⟨g, 1, none⟩ (.int .u32 p.dst)).setCell ⟨g, 2, none⟩ (.int .u16 p.port)).setCell ⟨g, 3, none⟩ (.int .u16 p.seq)).setCell ⟨g, 4, none⟩ (.int .u32 p.time)).setCell ⟨g, 5, none⟩ (.int .u16 p.id)).setCell ⟨g, 6, none⟩ (.int .u8 p.flags)).setCell ⟨g, 7, none⟩ (.string (bs p.body))) :=
  ⟨fill8 w2 g z t h hz _ _ _ _ _ _ _ _, (((((((hb.setCell hg _).setCell hg _).setCell hg _).setCell hg _).setCell hg _).setCell hg _).setCell hg _).setCell hg _⟩

theorem read_fin (l : List UInt8) (h : 22 ≤ l.length) (hne : l.length = 22 + at19 l) (hl : at19 l ≤ 100) :
    (writeR (seemP l) = l → readE l = 0 ∧ readR l = seemP l) ∧ (writeR (seemP l) ≠ l → readE l = 5 ∧ readR l = zeroP) := by
  have hbody : (seemP l).body.length ≤ 100 := by simp [seemP, withP]; omega
  have e : writeR (seemP l) = textL (seemP l) := by unfold writeR; rw [if_pos hbody]
  have e2 : readE l = if textL (seemP l) = l then 0 else 5 := by
    unfold readE
    rw [if_neg (by omega), if_neg (by omega), if_neg (by omega)]
  rw [e]
  unfold readR
  rw [e2]
  constructor
  · intro h1; rw [if_pos h1]; exact ⟨rfl, if_pos rfl⟩
  · intro h1; rw [if_neg h1]; exact ⟨rfl, if_neg (by decide)⟩

set_option maxHeartbeats 2000000 in
theorem rread_rest (l : List UInt8) (w : World) (h : 22 ≤ l.length) (hm : l.length ≤ 9223372036854775807) (hne : l.length = 22 + at19 l) (hl : at19 l ≤ 100) :
    Calls Try.prog 30 #[.string (bs l)] w fun e w' => e = .returned (.tuple #[.agg (readR l).cells, .int .i64 (readE l)]) ∧ Below w.heap.size w w' := by
  have hb := at_byte l (Nat.lt_of_lt_of_le (by decide) h)
  have hlt : at19 l < 256 := by unfold at19; exact UInt8.toNat_lt _
  have h19 : 19 < (bs l).size := by rw [bs_size]; omega
  have hne2 : ((l.length : Int) != 22 + (at19 l : Int)) = false := by simp; omega
  have hw20 : IntKind.i64.wrap (20 + (at19 l : Int)) = 20 + (at19 l : Int) := wrap_id (by omega) (by omega)
  have hb1 : (0 : Int) ≤ 20 + (at19 l : Int) := by omega
  have hb2 : (20 : Int) ≤ 20 + (at19 l : Int) := by omega
  have hb3 : 20 + (at19 l : Int) ≤ (l.length : Int) := by omega
  have hb4 : (10 : Int) ≤ (l.length : Int) := by omega
  have hb5 : (19 : Int) ≤ (l.length : Int) := by omega
  have hne3 := hide hne
  clear hne
  go_enter Try.func30, Try.ntmps30
  go_wp2_with fail
  go_cut [6] (fun v wr => ∃ g, v = .pointer (some ⟨g, 0, none⟩) ∧ wr.heap[g]? = some (.cells (seemP l).flat 112 (0, 0)) ∧ w.heap.size + 1 < g ∧ Two w wr)
  case first =>
    go_region_held3 (fun _ => True) (trivial)
      ((first | (go_at_call 61; refine (routeOf_any _ _ (by simp; omega)).mono ?_; rintro e wA ⟨rfl, hbelA⟩; obtain ⟨hccA, hffA⟩ := bcell hbelA; have hzA := hbelA.size; (try simp at hzA); have hz1A : w.heap.size + 1 < wA.heap.size := (by omega); have hz0A : w.heap.size < wA.heap.size := (by omega); try (have hz2A : w.heap.size + 1 + 1 < wA.heap.size := (by omega))) | (go_at_call 60; refine (with_any _ _ _ _ _ _ (by simp; omega)).mono ?_; rintro e wB ⟨rfl, hbelB⟩; unfold withP Pk.flat; obtain ⟨hccB, hffB⟩ := bcell hbelB; have hzB := hbelB.size; (try simp at hzB); have hz1B : w.heap.size + 1 < wB.heap.size := (by omega); have hz0B : w.heap.size < wB.heap.size := (by omega); try (have hz2B : w.heap.size + 1 + 1 < wB.heap.size := (by omega)))))
    all_goals go_wp2_with fail
    all_goals go_meet
    · clear hccA hffA hccB hffB
      refine ⟨wB.heap.size, rfl, ?_, hz1B, two_alloc (two_call (two_call (two_start w) hbelA) hbelB) _⟩
      rw [heap_alloc_new, flat_eq l]
    · clear hccA hffA hccB hffB
      refine ⟨wA.heap.size, rfl, ?_, hz1A, two_set (two_set (two_set (two_set (two_set (two_set (two_set (two_set (two_call (two_alloc (two_call (two_start w) hbelA) _) hbelB) hz1A _) hz1A _) hz1A _) hz1A _) hz1A _) hz1A _) hz1A _) hz1A _⟩
      rw [fill8 wB wA.heap.size _ _ (block_keep (heap_alloc_new wA _) hbelB) rfl, flat_eq l]
    · clear hccA hffA hccB hffB
      refine ⟨w.heap.size + 1 + 1, rfl, ?_, by omega, two_set (two_set (two_set (two_set (two_set (two_set (two_set (two_set (two_call (two_call (two_drew (two_alloc (two_start0 w) _)) hbelA) hbelB) (Nat.lt_succ_self _) _) (Nat.lt_succ_self _) _) (Nat.lt_succ_self _) _) (Nat.lt_succ_self _) _) (Nat.lt_succ_self _) _) (Nat.lt_succ_self _) _) (Nat.lt_succ_self _) _) (Nat.lt_succ_self _) _⟩
      rw [fill8 wB (w.heap.size + 1 + 1) _ _ (block_keep (block_keep (third_block w _ _ _) hbelA) hbelB) rfl, flat_eq l]
  case rest =>
    obtain ⟨g, rfl, hg, hgz, htwo⟩ := hcut
    have hok := seem_ok l
    have hbody : (seemP l).body.length ≤ 100 := by simp [seemP, withP]; omega
    have hfin := hide (read_fin l h (unhide hne3) hl)
    have HK := hide hok
    have HT := hide htwo
    have HG := hide hg
    generalize seemP l = p at *
    clear htwo hok
    by_cases hq : writeR p = l
    · have hq2 : (writeR p == l) = true := by rw [hq]; simp
      have Hq := hide hq
      clear hq
      obtain ⟨c0, c1, c2, c3, c4, c5, c6, c7⟩ := flat8 hg
      clear hg
      go_wp2_with (first | (go_at_call 28; refine (rwrite_any p _ (unhide HK) (by omega)).mono ?_; rintro e w3 ⟨rfl, hbel3⟩; have T3 := hide (two_call (two_call (unhide HT) (unhide HBel2)) hbel3); have G3 := block_keep (block_keep (unhide HG) (unhide HBel2)) hbel3; obtain ⟨d0, d1, d2, d3, d4, d5, d6, d7⟩ := flat8 G3; clear G3 hbel3) | (go_at_call 62; refine (packet_any p _ (unhide HK)).mono ?_; rintro e w2 ⟨rfl, hbel2⟩; first | (have T4 := two_call (unhide T3) hbel2; obtain ⟨e0, e1, e2, e3, e4, e5, e6, e7⟩ := cells8 T4.one; obtain ⟨f0, f1, f2, f3, f4, f5, f6, f7⟩ := free8 T4.one; have TT := hide T4; clear T4 hbel2; unfold Pk.cells) | (have HBel2 := hide hbel2; clear hbel2)))
      have hone := (unhide TT).one
      have hB := read_put p w.heap.size (Nat.le_refl _) (unhide TT).below hone
      obtain ⟨r0, r1, r2, r3, r4, r5, r6, r7⟩ := cells8 hB.1
      obtain ⟨q1, q2⟩ := (unhide hfin).1 (unhide Hq)
      rw [q1, q2]
      exact bodyPost_ret (v := .tuple #[.agg p.cells, .int .i64 0]) (by simp [results, Try.results30, go_sem, Pk.cells, r0, r1, r2, r3, r4, r5, r6, r7]) rfl ⟨rfl, hB.2⟩
    · have hq2 : (writeR p == l) = false := by
        rw [beq_eq_false_iff_ne]; exact hq
      have Hq := hide hq
      clear hq
      obtain ⟨c0, c1, c2, c3, c4, c5, c6, c7⟩ := flat8 hg
      clear hg
      go_wp2_with (first | (go_at_call 28; refine (rwrite_any p _ (unhide HK) (by omega)).mono ?_; rintro e w3 ⟨rfl, hbel3⟩; have T3 := two_call (two_call (unhide HT) (unhide HBel2)) hbel3; obtain ⟨d0, d1, d2, d3, d4, d5, d6, d7⟩ := cells8 T3.two; obtain ⟨e0, e1, e2, e3, e4, e5, e6, e7⟩ := cells8 T3.one; obtain ⟨f0, f1, f2, f3, f4, f5, f6, f7⟩ := free8 T3.one; have TT := hide T3; clear T3 hbel3) | (go_at_call 62; refine (packet_any p _ (unhide HK)).mono ?_; rintro e w2 ⟨rfl, hbel2⟩; have HBel2 := hide hbel2; clear hbel2))
      have hone := (unhide TT).one
      have hB := read_put zeroP w.heap.size (Nat.le_refl _) (unhide TT).below hone
      obtain ⟨r0, r1, r2, r3, r4, r5, r6, r7⟩ := cells8 hB.1
      obtain ⟨q1, q2⟩ := (unhide hfin).2 (unhide Hq)
      rw [q1, q2]
      exact bodyPost_ret (v := .tuple #[.agg zeroP.cells, .int .i64 5]) (by simp [results, Try.results30, go_sem, Pk.cells, r0, r1, r2, r3, r4, r5, r6, r7]) rfl ⟨rfl, hB.2⟩

theorem rread_any (l : List UInt8) (w : World) (hm : l.length ≤ 9223372036854775807) :
    Calls Try.prog 30 #[.string (bs l)] w fun e w' => e = .returned (.tuple #[.agg (readR l).cells, .int .i64 (readE l)]) ∧ Below w.heap.size w w' := by
  by_cases h1 : l.length < 22
  · have e : readE l = 4 := by unfold readE; rw [if_pos h1]
    rw [readR_bad (by rw [e]; decide), e]
    exact rread_few l w h1
  · by_cases h2 : l.length = 22 + at19 l
    · by_cases h3 : 100 < at19 l
      · have e : readE l = 2 := by unfold readE; rw [if_neg h1, if_neg (by omega), if_pos h3]
        rw [readR_bad (by rw [e]; decide), e]
        exact rread_long l w (by omega) hm h2 h3
      · exact rread_rest l w (by omega) hm h2 (by omega)
    · have e : readE l = 4 := by unfold readE; rw [if_neg h1, if_pos h2]
      rw [readR_bad (by rw [e]; decide), e]
      exact rread_else l w (by omega) hm h2

end Go.Proofs.Ytgpojbgjfibblaa.texts
