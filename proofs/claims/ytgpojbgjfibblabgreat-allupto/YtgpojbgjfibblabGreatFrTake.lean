/-
  The walk of the program's frame.Read; of Right (package frame).
  Conditions stand in each theorem.
-/
import Derived.Test.YtgpojbgjfibblabGreatFrWhole
namespace Go.Proofs.YtgpojbgjfibblabGreat.texts
open Go.RowKit
set_option linter.unusedVariables false
attribute [local go_sem ↓] Go.wp_at_zero Go.wp_at_succ
attribute [local go_sem] bs_size be_length bs_append List.length_append bs_extract bs_list

set_option maxRecDepth 100000 in
set_option maxHeartbeats 1000000 in
theorem fread_bad (l : List UInt8) (w : World) (hl : l.length ≤ 9223372036854775807) (h : l.length = 0 ∨ byteN l 0 % 2 = 1) :
    Calls Tryz.prog 87 #[.string (bs l)] w fun e w' => e = .returned (.tuple #[.agg Fr.zero.cells, .bool false]) ∧ Below w.heap.size w w' := by
  by_cases h0 : l.length = 0
  · go_enter Tryz.func87, Tryz.ntmps87
    go_wp2
    refine bodyPost_ret (v := .tuple #[.agg Fr.zero.cells, .bool false]) ?_ rfl ⟨rfl, (Below.refl _ _).alloc (Nat.le_refl _) _⟩
    simp [results, Tryz.results87, go_sem, Fr.cells, Fr.zero, St.zero, bs]
  · have h1 : byteN l 0 % 2 = 1 := by omega
    have hs : 0 < (bs l).size := by rw [bs_size]; omega
    have hb := byte_at l 0 (by omega) hs
    have a1 := and_one (byteN_lt l 0)
    rw [h1] at a1
    go_enter Tryz.func87, Tryz.ntmps87
    go_wp2
    refine bodyPost_ret (v := .tuple #[.agg Fr.zero.cells, .bool false]) ?_ rfl ⟨rfl, (Below.refl _ _).alloc (Nat.le_refl _) _⟩
    simp [results, Tryz.results87, go_sem, Fr.cells, Fr.zero, St.zero, bs]

/-- the answer in the block that came first -/
structure InR (w : World) (w1 : World) : Prop where
  one : w1.heap[w.heap.size]? = some (.cells Fr.zero.cells 168 (0, 0))
  below : Below w.heap.size w w1
theorem InR.start (w : World) : InR w (w.alloc (.cells Fr.zero.cells 168)) := ⟨heap_alloc_new w _, (Below.refl _ _).alloc (Nat.le_refl _) _⟩
theorem InR.call {w w1 w2 : World} (h : InR w w1) (hb : Below w1.heap.size w1 w2) : InR w w2 := ⟨block_keep h.one hb, keep_below h.below hb (Nat.le_of_lt (block_lt h.one))⟩
theorem InR.alloc {w w1 : World} (h : InR w w1) (o : Obj) : InR w (w1.alloc o) := h.call ((Below.refl _ _).alloc (Nat.le_refl _) _)
theorem InR.drew {w w1 : World} (h : InR w w1) : InR w w1.drew := ⟨h.one, h.below.drew⟩
theorem InR.ret {fn : Func} {q : Tmp} {a : Act} {w w1 : World} {R : Ending → World → Prop} {p : Tmp} {C : Array Value}
    (h : InR w w1) (hC : GoodFr C) (hr : fn.results = #[.cell p 168, .tmp q]) (hp : a.tmps.getD p undef = .pointer (some ⟨w.heap.size, 0, none⟩)) (hf : a.defers = [])
    (hR : Below w.heap.size w (w1.setRow w.heap.size C) → R (.returned (.tuple #[.agg C, a.tmps.getD q undef])) (w1.setRow w.heap.size C)) : bodyPost Tryz.prog fn R .ret a (w1.setRow w.heap.size C) :=
  ret_whole2 hr hp (setRow_heap _ _ _ _ _ _ h.one) Tryz.underlying168 rfl (by rw [infoFr, hC.1]) hf (hR (below_setRow h.below (Nat.le_refl _) _))

/-- a frame is written cell by cell -/
theorem fill_fr {w : World} {g : Nat} {z : Fr} {t : TypeId} (h : w.heap[g]? = some (.cells z.cells t (0, 0))) (f : Fr) :
    (((((((((((((w.setCell ⟨g, 0, none⟩ (.int .u8 f.kind)).setCell ⟨g, 1, none⟩ (.int .u8 f.cid)).setCell ⟨g, 2, none⟩ (.int .u8 f.turn)).setCell ⟨g, 3, none⟩ (.int .u32 f.src)).setCell ⟨g, 4, none⟩ (.int .u32 f.dst)).setCell ⟨g, 5, none⟩ (.int .u16 f.port)).setCell ⟨g, 6, none⟩ (.int .u16 f.told.seq)).setCell ⟨g, 7, none⟩ (.int .u16 f.told.stride)).setCell ⟨g, 8, none⟩ (.int .u16 f.told.offset)).setCell ⟨g, 9, none⟩ (.int .u32 f.told.lag)).setCell ⟨g, 10, none⟩ (.int .u8 f.told.flags)).setCell ⟨g, 11, none⟩ (.int .u8 f.chk)).setCell ⟨g, 12, none⟩ (.string (bs f.body))).heap[g]? = some (.cells f.cells t (0, 0)) := by
  have h0 := heap_setCell_same w g 0 _ t (.int .u8 f.kind) h
  have h1 := heap_setCell_same _ g 1 _ t (.int .u8 f.cid) h0
  have h2 := heap_setCell_same _ g 2 _ t (.int .u8 f.turn) h1
  have h3 := heap_setCell_same _ g 3 _ t (.int .u32 f.src) h2
  have h4 := heap_setCell_same _ g 4 _ t (.int .u32 f.dst) h3
  have h5 := heap_setCell_same _ g 5 _ t (.int .u16 f.port) h4
  have h6 := heap_setCell_same _ g 6 _ t (.int .u16 f.told.seq) h5
  have h7 := heap_setCell_same _ g 7 _ t (.int .u16 f.told.stride) h6
  have h8 := heap_setCell_same _ g 8 _ t (.int .u16 f.told.offset) h7
  have h9 := heap_setCell_same _ g 9 _ t (.int .u32 f.told.lag) h8
  have h10 := heap_setCell_same _ g 10 _ t (.int .u8 f.told.flags) h9
  have h11 := heap_setCell_same _ g 11 _ t (.int .u8 f.chk) h10
  have h12 := heap_setCell_same _ g 12 _ t (.string (bs f.body)) h11
  rw [h12]
  simp only [Fr.cells, List.setIfInBounds_toArray, List.set_cons_zero, List.set_cons_succ]
theorem fill_other {w : World} {g k : Nat} {o : Obj} (h : w.heap[k]? = some o) (hk : k ≠ g) (f : Fr) :
    (((((((((((((w.setCell ⟨g, 0, none⟩ (.int .u8 f.kind)).setCell ⟨g, 1, none⟩ (.int .u8 f.cid)).setCell ⟨g, 2, none⟩ (.int .u8 f.turn)).setCell ⟨g, 3, none⟩ (.int .u32 f.src)).setCell ⟨g, 4, none⟩ (.int .u32 f.dst)).setCell ⟨g, 5, none⟩ (.int .u16 f.port)).setCell ⟨g, 6, none⟩ (.int .u16 f.told.seq)).setCell ⟨g, 7, none⟩ (.int .u16 f.told.stride)).setCell ⟨g, 8, none⟩ (.int .u16 f.told.offset)).setCell ⟨g, 9, none⟩ (.int .u32 f.told.lag)).setCell ⟨g, 10, none⟩ (.int .u8 f.told.flags)).setCell ⟨g, 11, none⟩ (.int .u8 f.chk)).setCell ⟨g, 12, none⟩ (.string (bs f.body))).heap[k]? = some o := by
  rw [Below.heap_setCell _ _ _ _ (by exact hk), Below.heap_setCell _ _ _ _ (by exact hk), Below.heap_setCell _ _ _ _ (by exact hk), Below.heap_setCell _ _ _ _ (by exact hk), Below.heap_setCell _ _ _ _ (by exact hk), Below.heap_setCell _ _ _ _ (by exact hk), Below.heap_setCell _ _ _ _ (by exact hk), Below.heap_setCell _ _ _ _ (by exact hk), Below.heap_setCell _ _ _ _ (by exact hk), Below.heap_setCell _ _ _ _ (by exact hk), Below.heap_setCell _ _ _ _ (by exact hk), Below.heap_setCell _ _ _ _ (by exact hk), Below.heap_setCell _ _ _ _ (by exact hk)]
  exact h
theorem fill_below {B g : Nat} {a w : World} (h : Below B a w) (hg : B ≤ g) (f : Fr) :
    Below B a (((((((((((((w.setCell ⟨g, 0, none⟩ (.int .u8 f.kind)).setCell ⟨g, 1, none⟩ (.int .u8 f.cid)).setCell ⟨g, 2, none⟩ (.int .u8 f.turn)).setCell ⟨g, 3, none⟩ (.int .u32 f.src)).setCell ⟨g, 4, none⟩ (.int .u32 f.dst)).setCell ⟨g, 5, none⟩ (.int .u16 f.port)).setCell ⟨g, 6, none⟩ (.int .u16 f.told.seq)).setCell ⟨g, 7, none⟩ (.int .u16 f.told.stride)).setCell ⟨g, 8, none⟩ (.int .u16 f.told.offset)).setCell ⟨g, 9, none⟩ (.int .u32 f.told.lag)).setCell ⟨g, 10, none⟩ (.int .u8 f.told.flags)).setCell ⟨g, 11, none⟩ (.int .u8 f.chk)).setCell ⟨g, 12, none⟩ (.string (bs f.body))) :=
  ((((((((((((h.setCell hg _).setCell hg _).setCell hg _).setCell hg _).setCell hg _).setCell hg _).setCell hg _).setCell hg _).setCell hg _).setCell hg _).setCell hg _).setCell hg _).setCell hg _

/-- the answer in the block that came first, a frame in another -/
structure InG (w : World) (f : Fr) (g : Nat) (w1 : World) : Prop where
  all : InR w w1
  two : w1.heap[g]? = some (.cells f.cells 168 (0, 0))
  ne : w.heap.size < g
theorem InR.two {w w1 : World} (h : InR w w1) (o p : Obj) : InR w ((w1.alloc o).alloc p) := (h.alloc o).alloc p
theorem InG.fill {w w1 : World} {z : Fr} {g : Nat} (h : InG w z g w1) (f : Fr) : InG w f g (((((((((((((w1.setCell ⟨g, 0, none⟩ (.int .u8 f.kind)).setCell ⟨g, 1, none⟩ (.int .u8 f.cid)).setCell ⟨g, 2, none⟩ (.int .u8 f.turn)).setCell ⟨g, 3, none⟩ (.int .u32 f.src)).setCell ⟨g, 4, none⟩ (.int .u32 f.dst)).setCell ⟨g, 5, none⟩ (.int .u16 f.port)).setCell ⟨g, 6, none⟩ (.int .u16 f.told.seq)).setCell ⟨g, 7, none⟩ (.int .u16 f.told.stride)).setCell ⟨g, 8, none⟩ (.int .u16 f.told.offset)).setCell ⟨g, 9, none⟩ (.int .u32 f.told.lag)).setCell ⟨g, 10, none⟩ (.int .u8 f.told.flags)).setCell ⟨g, 11, none⟩ (.int .u8 f.chk)).setCell ⟨g, 12, none⟩ (.string (bs f.body))) :=
  ⟨⟨fill_other h.all.one (by have := h.ne; omega) f, fill_below h.all.below (by have := h.ne; omega) f⟩, fill_fr h.two f, h.ne⟩

set_option maxRecDepth 100000 in
set_option maxHeartbeats 4000000 in
theorem fread_any (l : List UInt8) (w : World) (hl : l.length ≤ 9223372036854775807) :
    Calls Tryz.prog 87 #[.string (bs l)] w fun e w' => e = .returned (.tuple #[.agg (frOf (readF l)).cells, .bool (readF l).isSome]) ∧ Below w.heap.size w w' := by
  by_cases h : l.length = 0 ∨ byteN l 0 % 2 = 1
  · have e : readF l = none := by unfold readF; rw [if_pos h]
    rw [e]
    exact fread_bad l w hl h
  · have hs : 0 < (bs l).size := by rw [bs_size]; omega
    have hb := byte_at l 0 (by omega) hs
    have lt0 := byteN_lt l 0
    have a1 := and_one lt0
    have a7 := and_seven lt0
    have a3 := and_three lt0
    rw [show byteN l 0 % 2 = 0 by omega] at a1
    have hdl : l.take l.length = l := List.take_length
    have HI := hide (InR.start w)
    have g1 : (1 : Int) ≤ (l.length : Int) := by omega
    obtain ⟨o, ho⟩ : ∃ o, o = innerO (bareF (byteN l 0)) (l.drop 1) := ⟨_, rfl⟩
    have HE := hide (show ∀ w : World, Calls Tryz.prog 112 #[.agg #[.int .u8 ((byteN l 0 : Int) / 64), .int .u8 ((byteN l 0 : Int) / 2 % 8), .int .u8 ((byteN l 0 : Int) / 16 % 4), .int .u32 0, .int .u32 0, .int .u16 0, .int .u16 0, .int .u16 0, .int .u16 0, .int .u32 0, .int .u8 0, .int .u8 0, .string ⟨#[]⟩], .string (bs l.tail)] w fun e w' => e = .returned (.tuple #[.agg (frOf o).cells, .bool o.isSome]) ∧ Below w.heap.size w w' by
      intro w
      rw [ho, ← List.drop_one]
      exact finner_any (bareF (byteN l 0)) _ w (by simp only [bareF]; omega) (by simp; omega))
    have hn0 : ((l.length : Int) == 0) = false := by rw [beq_eq_false_iff_ne]; intro hh; omega
    have a3' : Go.bits BinOp.and IntKind.u8 ((byteN l 0 : Int) / 16) 3 = (byteN l 0 : Int) / 16 % 4 := a3
    have er : readF l = cutO o := by unfold readF; rw [if_neg h, ho]
    obtain ⟨R, hR⟩ : ∃ R, R = (frOf (readF l)).cells := ⟨_, rfl⟩
    obtain ⟨b, hb'⟩ : ∃ b, b = (readF l).isSome := ⟨_, rfl⟩
    rw [← hR, ← hb']
    rw [er] at hR hb'
    have HR := hide hR
    have HB := hide hb'
    clear er hR hb' ho h
    generalize byteN l 0 = B at *
    obtain ⟨G, hG⟩ : ∃ G, G = frOf o := ⟨_, rfl⟩
    have HG := hide hG
    rw [← hG] at HE
    clear hG
    obtain ⟨C, hC⟩ : ∃ C, C = o.isSome := ⟨_, rfl⟩
    have HC := hide hC
    rw [← hC] at HE
    clear hC
    go_enter Tryz.func87, Tryz.ntmps87
    have HZ := hide (show ∀ o : Obj, InG w Fr.zero (w.heap.size + 1 + 1) (((w.alloc (.cells Fr.zero.cells 168)).alloc o).alloc (.cells Fr.zero.cells 168)).drew from fun o => ⟨((unhide HI).two o _).drew, third_alloc w _ o _, by omega⟩)
    go_upto_region 5 with fail
    go_cut [6, 7] (fun v u wx => ∃ g, v = .pointer (some ⟨g, 0, none⟩) ∧ u = .bool C ∧ InG w G g wx)
    case first =>
      go_region_with ((go_at_call 112; refine (unhide HE _).mono ?_; unfold Fr.cells; rintro e w1 ⟨rfl, hb1⟩
                       first
                       | (have K : InR w w1 := InR.call (((unhide HI).alloc _).drew) hb1; have hz := block_lt K.one; have HK := hide K; clear K hb1)
                       | (have K : InR w w1 := InR.call ((((unhide HI).alloc _).alloc _).drew) hb1; have K2 : InG w Fr.zero (w.heap.size + 1 + 1) w1 := ⟨K, block_keep (unhide HZ _).two hb1, by omega⟩; obtain ⟨c0, c1, c2, c3, c4, c5, c6, c7, c8, c9, c10, c11, c12⟩ := fr_cells K2.two; obtain ⟨d0, d1, d2, d3, d4, d5, d6, d7, d8, d9, d10, d11, d12⟩ := fr_free K2.two; have HK2 := hide K2; clear K hb1 K2)))
      all_goals go_wp2_with fail
      all_goals
        go_meet
        case rel => first | exact ⟨_, rfl, rfl, ⟨(unhide HK).alloc _, heap_alloc_new w1 _, hz⟩⟩ | exact ⟨_, rfl, rfl, (unhide HK2).fill G⟩
    case rest =>
      obtain ⟨g, rfl, rfl, K⟩ := hcut
      obtain ⟨c0, c1, c2, c3, c4, c5, c6, c7, c8, c9, c10, c11, c12⟩ := fr_cells K.two
      obtain ⟨e0, e1, e2, e3, e4, e5, e6, e7, e8, e9, e10, e11, e12⟩ := fr_cells K.all.one
      obtain ⟨d0, d1, d2, d3, d4, d5, d6, d7, d8, d9, d10, d11, d12⟩ := fr_free K.all.one
      have HK := hide K
      have hi13 : (Tryz.prog.info? 168).map (·.size) = some R.size := by rw [unhide HR]; exact infoFr
      have Hi13 := hide hi13
      clear K hi13 HE HZ HI a1 a7 a3 a3' hb lt0 hs hdl
      by_cases hc : C = true
      · subst hc
        have eo : o = some G := by
          have h1 := unhide HC
          have h2 := unhide HG
          cases o with
          | none => simp at h1
          | some x => rw [h2]; rfl
        by_cases hlen : 100 < G.body.length
        · have eR : R = Fr.zero.cells := by rw [unhide HR, eo]; simp only [cutO, if_pos hlen]; rfl
          have eb : b = false := by rw [unhide HB, eo]; simp only [cutO, if_pos hlen]; rfl
          have ER := hide eR
          have EB := hide eb
          clear eR eb eo
          go_wp2_with fail
          exact ret_whole2 Tryz.results87 rfl (fill_fr (unhide HK).all.one Fr.zero) Tryz.underlying168 rfl infoFr rfl ⟨by rw [unhide ER, unhide EB]; rfl, fill_below (unhide HK).all.below (Nat.le_refl _) Fr.zero⟩
        · have eR : R = G.cells := by rw [unhide HR, eo]; simp only [cutO, if_neg hlen]; rfl
          have eb : b = true := by rw [unhide HB, eo]; simp only [cutO, if_neg hlen]; rfl
          have ER := hide eR
          have EB := hide eb
          clear eR eb eo
          go_wp2_with fail
          exact ret_whole2 Tryz.results87 rfl (fill_fr (unhide HK).all.one G) Tryz.underlying168 rfl infoFr rfl ⟨by rw [unhide ER, unhide EB]; rfl, fill_below (unhide HK).all.below (Nat.le_refl _) G⟩
      · have hc' : C = false := Bool.eq_false_iff.2 hc
        subst hc'
        have eo : o = none := by
          have h1 := unhide HC
          cases o with
          | none => rfl
          | some x => simp at h1
        have eR : R = Fr.zero.cells := by rw [unhide HR, eo]; rfl
        have eb : b = false := by rw [unhide HB, eo]; rfl
        have ER := hide eR
        have EB := hide eb
        clear eR eb eo
        go_wp2_with fail
        exact ret_whole2 Tryz.results87 rfl (fill_fr (unhide HK).all.one Fr.zero) Tryz.underlying168 rfl infoFr rfl ⟨by rw [unhide ER, unhide EB]; rfl, fill_below (unhide HK).all.below (Nat.le_refl _) Fr.zero⟩

end Go.Proofs.YtgpojbgjfibblabGreat.texts
