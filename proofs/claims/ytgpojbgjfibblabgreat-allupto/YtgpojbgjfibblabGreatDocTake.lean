/-
  The walk of the document's Take.
  Conditions stand in each theorem.
-/
import Derived.Test.YtgpojbgjfibblabGreatRefMade2
import Derived.Test.YtgpojbgjfibblabGreatWorldIn
import Derived.Test.YtgpojbgjfibblabGreatTakeAny
import Derived.Deep.DeepCutAuto
namespace Go.Proofs.YtgpojbgjfibblabGreat.texts
open Go.RowKit
set_option linter.unusedVariables false
attribute [local go_sem ↓] Go.wp_at_zero Go.wp_at_succ
attribute [local go_sem ↓] loadRc_eq storeRc_eq storeRs_eq storeFf_eq loadFf_eq storePk_eq
attribute [local go_sem] run_loadRc run_storeRc run_storeRs run_storeFf run_loadFf run_storePk
attribute [local go_sem] bs_size

def loadPk (v : Value) : Sem Value := Instr.loadAt 43 v
theorem loadPk_eq (v : Value) : Instr.loadAt 43 v = loadPk v := rfl
theorem run_loadPk (w : World) (g : Nat) (h : FfIn w g) : (loadPk (.pointer (some ⟨g, 0, none⟩))).run Tryz.prog w = .ok (.agg (ffOf w g)) w := by
  obtain ⟨c, t, fr, h1, h2⟩ := h
  have := run_loadAt_mid (P := Tryz.prog) w g 0 43 _ _ (World.rangeAt_of_block h1 0 8) Tryz.underlying43 rfl (by rw [infoPk]; simp; omega)
  have e : c.extract 0 (0 + 8) = c := by rw [show 0 + 8 = c.size by omega]; exact Array.extract_size
  rw [e] at this
  simpa [loadPk, ffOf, h1] using this
attribute [local go_sem ↓] loadPk_eq
attribute [local go_sem] run_loadPk

/-- a receiver's context of the program's and one of the document's -/
structure RelX (c : Rx) (x : Rc) : Prop where
  has : x.has = c.begun
  rt : c.begun = true → x.src = c.src ∧ x.dst = c.dst ∧ x.port = c.port ∧ x.turn = c.turn
  sts : x.sts = if c.begun = true then [c.st] else []
  missed : x.missed = c.missed
  sent : x.sent = 0
  tn : x.turn < 4
structure RelR (m : Rcv) (d : Doc) : Prop where
  len : d.cs.length = m.cids
  one : ∀ i, i < m.cids → RelX (m.at_ i) (d.at_ i)
theorem RelR.put {m : Rcv} {d : Doc} (hm : m.ok) (h : RelR m d) {i : Nat} (hi : i < m.cids) {c : Rx} {x : Rc} (hr : RelX c x) : RelR (m.set i c) (d.set i x) := by
  have hl := h.len
  have h8 := hm.c8
  have ml := hm.len
  refine ⟨by simp [Doc.set, hl]; rfl, fun j hj => ?_⟩
  rw [Rcv.set_at m i j c (by omega), Doc.set_at d i j x (by omega)]
  split
  · exact hr
  · exact h.one j hj
theorem made_any (x : Rc) (c : Rx) (l : List UInt8) (B0 : Nat) (w : World) (hc : c.ok) (h : Shape l) (hr : byteN l 0 / 64 ≠ 3 → (x.src = c.src ∧ x.dst = c.dst ∧ x.port = c.port) ∧ w.ownsRow B0 128 5 x.sv 1 (scells [c.st])) :
    Calls Tryz.prog 57 #[.agg x.cells, .string (bs l)] w fun e w' => MadeIs w c l e w' := by
  have hb := byteN_lt l 0
  have hm := h.most
  have ha : aheadN (byteN l 0 / 64) ≤ 23 := by unfold aheadN; split; omega; split; omega; split <;> omega
  have hl : l.length ≤ 1000 := by omega
  by_cases h3 : byteN l 0 / 64 = 3
  · exact made_3 x c l w hc h h3 hl
  · obtain ⟨r1, r2⟩ := hr h3
    by_cases h2 : byteN l 0 / 64 = 2
    · exact made_2 x c l w hc r1 h h2 hl
    · by_cases h1 : byteN l 0 / 64 = 1
      · exact made_1 x c l B0 w hc r1 r2 h h1 hl
      · exact made_0 x c l B0 w hc r1 r2 h (by omega) hl

/-- the End, the context at work, and what a frame seems to tell -/
structure InDt (w : World) (ge gl : Nat) (d : Doc) (ZP : Array Value) (gx : Nat) (x : Rc) (gf : Nat) (F : Array Value) (gn : Nat) (N : Array Value) (w1 : World) : Prop where
  doc : DocAt w1 ge gl d
  res : w1.heap[w.heap.size]? = some (.cells ZP 43 (0, 0))
  non : w1.heap[w.heap.size + 1]? = some (.cells ZP 43 (0, 0))
  cx : w1.heap[gx]? = some (.cells x.cells 126 (0, 0))
  fl : w1.heap[gf]? = some (.cells F 120 (0, 0))
  st : w1.heap[gn]? = some (.cells N 128 (0, 0))
  gb : ge < w.heap.size
  lb : gl < w.heap.size
  ux : w.heap.size + 1 < gx
  uf : w.heap.size + 1 < gf
  un : w.heap.size + 1 < gn
  below : Below w.heap.size w w1
theorem InDt.call {w w1 w2 : World} {ge gl gx gf gn : Nat} {d : Doc} {ZP F N : Array Value} {x : Rc} (h : InDt w ge gl d ZP gx x gf F gn N w1) (hb : Below w1.heap.size w1 w2) : InDt w ge gl d ZP gx x gf F gn N w2 :=
  ⟨h.doc.keep hb, block_keep h.res hb, block_keep h.non hb, block_keep h.cx hb, block_keep h.fl hb, block_keep h.st hb, h.gb, h.lb, h.ux, h.uf, h.un, keep_below h.below hb (Nat.le_of_lt (block_lt h.res))⟩
theorem InDt.putF {w w1 : World} {ge gl gx gf gn : Nat} {d : Doc} {ZP F N : Array Value} {x : Rc} (h : InDt w ge gl d ZP gx x gf F gn N w1) (C : Array Value) : InDt w ge gl d ZP gx x gf C gn N (w1.setRow gf C) := by
  have h1 := h.gb
  have h2 := h.lb
  have h3 := h.uf
  exact ⟨⟨by rw [setRow_other _ _ _ _ (by omega)]; exact h.doc.head, by rw [setRow_other _ _ _ _ (by omega)]; exact h.doc.rows, h.doc.sl⟩, by rw [setRow_other _ _ _ _ (by omega)]; exact h.res, by rw [setRow_other _ _ _ _ (by omega)]; exact h.non, by rw [setRow_other _ _ _ _ (apart_ty h.cx h.fl (by decide))]; exact h.cx, setRow_heap _ _ _ _ _ _ h.fl, by rw [setRow_other _ _ _ _ (apart_ty h.st h.fl (by decide))]; exact h.st, h1, h2, h.ux, h3, h.un, below_setRow h.below (by omega) _⟩
theorem InDt.putN {w w1 : World} {ge gl gx gf gn : Nat} {d : Doc} {ZP F N : Array Value} {x : Rc} (h : InDt w ge gl d ZP gx x gf F gn N w1) (C : Array Value) : InDt w ge gl d ZP gx x gf F gn C (w1.setRow gn C) := by
  have h1 := h.gb
  have h2 := h.lb
  have h3 := h.un
  exact ⟨⟨by rw [setRow_other _ _ _ _ (by omega)]; exact h.doc.head, by rw [setRow_other _ _ _ _ (by omega)]; exact h.doc.rows, h.doc.sl⟩, by rw [setRow_other _ _ _ _ (by omega)]; exact h.res, by rw [setRow_other _ _ _ _ (by omega)]; exact h.non, by rw [setRow_other _ _ _ _ (apart_ty h.cx h.st (by decide))]; exact h.cx, by rw [setRow_other _ _ _ _ (apart_ty h.fl h.st (by decide))]; exact h.fl, setRow_heap _ _ _ _ _ _ h.st, h1, h2, h.ux, h.uf, h3, below_setRow h.below (by omega) _⟩

/-- what Take leaves -/
def DocTook (m : Rcv) (l : List UInt8) (w : World) (ge gl B : Nat) (e : Ending) (w' : World) : Prop :=
  e = .returned (.tuple #[.agg (takeP m l).cells, .string (bs (takeB m l)), .int .i64 (takeE m l : Nat)]) ∧ ∃ d', RelR (takeM m l) d' ∧ d'.cids = m.cids ∧ DocAt w' ge gl d' ∧ StsIn w' B d' ∧ Only (· = gl) w w'

set_option maxRecDepth 100000 in
set_option maxHeartbeats 4000000 in
theorem dtake_bad (m : Rcv) (d : Doc) (l : List UInt8) (ge gl B : Nat) (w : World) (hm : m.ok) (hR : RelR m d) (hdc : d.cids = m.cids) (h : DocAt w ge gl d) (hst : StsIn w B d) (hl : l.length ≤ 9223372036854775807) (hs : shapedB l m.cids = false) :
    Calls Tryz.prog 32 #[.pointer (some ⟨ge, 0, none⟩), .string (bs l)] w fun e w' => DocTook m l w ge gl B e w' := by
  have hbad : readF l = none ∨ ∃ f, readF l = some f ∧ m.cids ≤ f.cid := by
    by_cases hsh : Shape l
    · right
      exact ⟨_, readF_shape hsh, by rw [(shapeF_parts l).2.1]; exact shaped_no hs hsh⟩
    · left
      exact readF_not hsh
  have e1 : takeE m l = 4 := by
    unfold takeE
    rcases hbad with e | ⟨f, e, hc⟩
    · rw [e]
    · rw [e]; simp only; rw [if_pos hc]
  have e2 : takeP m l = zeroP := by
    unfold takeP
    rcases hbad with e | ⟨f, e, hc⟩
    · rw [e]
    · rw [e]; simp only; rw [e1, if_neg (by decide)]
  have e3 : takeB m l = [] := by
    unfold takeB
    rcases hbad with e | ⟨f, e, hc⟩
    · rw [e]
    · rw [e]; simp only; rw [e1, if_pos (Or.inr (Or.inl rfl))]
  have e4 : takeM m l = m := by
    unfold takeM
    rcases hbad with e | ⟨f, e, hc⟩
    · rw [e]
    · rw [e]; simp only; rw [e1, if_pos rfl]
  unfold DocTook
  rw [e1, e2, e3, e4]
  obtain ⟨ZP, hZP⟩ : ∃ ZP, ZP = zeroP.cells := ⟨_, rfl⟩
  have zvP : ∀ w, (zeroValue 43).run Tryz.prog w = .ok (.agg ZP) w := by rw [hZP]; intro w; exact Tryz.zeroValue43 w
  have gP : GoodPk ZP := by rw [hZP]; exact Pk.good zeroP
  rw [← hZP]
  have HZP := hide hZP
  have HSH := hide (show ∀ w : World, Calls Tryz.prog 56 #[.string (bs l), .int .i64 m.cids] w fun e w' => e = .returned (.bool false) ∧ w' = w by
    intro w; have := shaped_any l m.cids w hl hm.c8; rw [hs] at this; exact this)
  have d3 : w.cell? ⟨ge, 3, none⟩ = some (.slice (some ⟨gl, 0, none⟩) m.cids m.cids) := by have := block_cell h.head 3; rw [hR.len] at this; exact this
  have hge := block_lt h.head
  have b0 := block_alloc (heap_alloc_new w (.cells ZP 43)) (.cells ZP 43)
  have b1 : ((w.alloc (.cells ZP 43)).alloc (.cells ZP 43)).heap[w.heap.size + 1]? = some (.cells ZP 43 (0, 0)) := by
    have := heap_alloc_new (w.alloc (.cells ZP 43)) (.cells ZP 43)
    simpa using this
  have y1 : FfIn ((w.alloc (.cells ZP 43)).alloc (.cells ZP 43)) (w.heap.size + 1) := ⟨_, _, _, b1, gP.1⟩
  have y2 : ffOf ((w.alloc (.cells ZP 43)).alloc (.cells ZP 43)) (w.heap.size + 1) = ZP := by unfold ffOf; rw [b1]
  have y3 : PkTo ((w.alloc (.cells ZP 43)).alloc (.cells ZP 43)) w.heap.size := ⟨_, _, b0, gP.1⟩
  have HB0 := hide b0
  have HD := hide h
  have HST := hide hst
  have HR := hide hR
  clear hbad e1 e2 e3 e4 hZP hs h hst hR b0 b1 hm
  go_enter Tryz.func32, Tryz.ntmps32
  go_wp2_with (go_at_call 56; refine (unhide HSH _).mono ?_; rintro e w1 ⟨rfl, h1⟩; have h1 := h1.symm; subst h1)
  have hb : Below w.heap.size w (((w.alloc (.cells ZP 43)).alloc (.cells ZP 43)).setRow w.heap.size ZP) := below_setRow (((Below.refl _ _).alloc (Nat.le_refl _) _).alloc (by simp) _) (Nat.le_refl _) _
  exact ret_whole3 (cs := ZP) Tryz.results32 rfl (setRow_heap _ _ _ _ _ _ (unhide HB0)) Tryz.underlying43 rfl (by rw [gP.1]; exact infoPk) rfl ⟨rfl, d, unhide HR, hdc, (unhide HD).keep hb, (unhide HST).same (fun q cs hq => hb.block q (block_lt hq)), Only.of_below hb⟩

theorem take_err {m : Rcv} {l : List UInt8} {f : Fr} {e : Nat} (hr : readF l = some f) (hc : f.cid < m.cids) (he : refusalN (m.at_ f.cid) f (madeN (m.at_ f.cid) f) = e) (h0 : e ≠ 0) (h4 : e ≠ 4) (hk : f.kind ≠ 3) :
    takeE m l = e ∧ takeP m l = zeroP ∧ takeB m l = feedN e (((m.at_ f.cid).missed + 1) % 256) f.cid ∧ takeM m l = m.set f.cid { m.at_ f.cid with missed := ((m.at_ f.cid).missed + 1) % 256 } := by
  have e1 : takeE m l = e := by unfold takeE; rw [hr]; simp only; rw [if_neg (by omega), he]
  refine ⟨e1, ?_, ?_, ?_⟩
  · unfold takeP; rw [hr]; simp only; rw [e1, if_neg h0]
  · unfold takeB; rw [hr]; simp only; rw [e1, if_neg (by omega)]
  · unfold takeM; rw [hr]; simp only; rw [e1, if_neg h4, if_neg h0, if_neg hk]
theorem take_errw {m : Rcv} {l : List UInt8} {f : Fr} {e : Nat} (hr : readF l = some f) (hc : f.cid < m.cids) (he : refusalN (m.at_ f.cid) f (madeN (m.at_ f.cid) f) = e) (h0 : e ≠ 0) (h4 : e ≠ 4) (hk : f.kind = 3) :
    takeE m l = e ∧ takeP m l = zeroP ∧ takeB m l = [] ∧ takeM m l = m := by
  have e1 : takeE m l = e := by unfold takeE; rw [hr]; simp only; rw [if_neg (by omega), he]
  refine ⟨e1, ?_, ?_, ?_⟩
  · unfold takeP; rw [hr]; simp only; rw [e1, if_neg h0]
  · unfold takeB; rw [hr]; simp only; rw [e1, if_pos (Or.inr (Or.inr hk))]
  · unfold takeM; rw [hr]; simp only; rw [e1, if_neg h4, if_neg h0, if_pos hk]
theorem take_ok0 {m : Rcv} {l : List UInt8} {f : Fr} (hr : readF l = some f) (hc : f.cid < m.cids) (he : refusalN (m.at_ f.cid) f (madeN (m.at_ f.cid) f) = 0) :
    takeE m l = 0 ∧ takeP m l = madeN (m.at_ f.cid) f ∧ takeB m l = [] ∧ takeM m l = m.set f.cid (followN (m.at_ f.cid) f) := by
  have e1 : takeE m l = 0 := by unfold takeE; rw [hr]; simp only; rw [if_neg (by omega), he]
  refine ⟨e1, ?_, ?_, ?_⟩
  · unfold takeP; rw [hr]; simp only; rw [e1, if_pos rfl]
  · unfold takeB; rw [hr]; simp only; rw [e1, if_pos (Or.inl rfl)]
  · unfold takeM; rw [hr]; simp only; rw [e1, if_neg (by decide), if_pos rfl]
theorem InDt.start {w : World} {ge gl : Nat} {d : Doc} (h : DocAt w ge gl d) (ZP ZF Z5 : Array Value) (x : Rc) :
    InDt w ge gl d ZP (w.heap.size + 1 + 1) x (w.heap.size + 1 + 1 + 1) ZF (w.heap.size + 1 + 1 + 1 + 1) Z5 (((((w.alloc (.cells ZP 43)).alloc (.cells ZP 43)).alloc (.cells x.cells 126)).alloc (.cells ZF 120)).alloc (.cells Z5 128)) := by
  have hb2 : Below w.heap.size w ((w.alloc (.cells ZP 43)).alloc (.cells ZP 43)) := ((Below.refl _ _).alloc (Nat.le_refl _) _).alloc (by simp) _
  have e2 : ((w.alloc (.cells ZP 43)).alloc (.cells ZP 43)).heap.size = w.heap.size + 1 + 1 := by simp
  have e1 : (w.alloc (.cells ZP 43)).heap.size = w.heap.size + 1 := by simp
  have r0 := block_alloc (heap_alloc_new w (.cells ZP 43)) (.cells ZP 43)
  have r1 := heap_alloc_new (w.alloc (.cells ZP 43)) (.cells ZP 43)
  rw [e1] at r1
  generalize (w.alloc (.cells ZP 43)).alloc (.cells ZP 43) = W at hb2 e2 r0 r1 ⊢
  have b3 : Below W.heap.size W (((W.alloc (.cells x.cells 126)).alloc (.cells ZF 120)).alloc (.cells Z5 128)) := (((Below.refl _ _).alloc (Nat.le_refl _) _).alloc (by simp) _).alloc (by simp; omega) _
  have c0 := block_alloc (block_alloc (heap_alloc_new W (.cells x.cells 126)) (.cells ZF 120)) (.cells Z5 128)
  have c1 := second_alloc W (.cells x.cells 126) (.cells ZF 120) (.cells Z5 128)
  have c2 := third_alloc W (.cells x.cells 126) (.cells ZF 120) (.cells Z5 128)
  rw [e2] at c0 c1 c2
  have hb5 := keep_below hb2 b3 hb2.size
  exact ⟨h.keep hb5, block_keep r0 b3, block_keep r1 b3, c0, c1, c2, block_lt h.head, block_lt h.rows, by omega, by omega, by omega, hb5⟩
/-- one cell of the context in the End is turned -/
structure InDm (w : World) (ge gl : Nat) (d : Doc) (ZP : Array Value) (w1 : World) : Prop where
  doc : DocAt w1 ge gl d
  res : w1.heap[w.heap.size]? = some (.cells ZP 43 (0, 0))
  non : w1.heap[w.heap.size + 1]? = some (.cells ZP 43 (0, 0))
  only : Only (· = gl) w w1
theorem InDm.call {w w1 w2 : World} {ge gl : Nat} {d : Doc} {ZP : Array Value} (h : InDm w ge gl d ZP w1) (hb : Below w1.heap.size w1 w2) : InDm w ge gl d ZP w2 := ⟨h.doc.keep hb, block_keep h.res hb, block_keep h.non hb, h.only.trans (Only.of_below hb)⟩
theorem InDm.drew {w w1 : World} {ge gl : Nat} {d : Doc} {ZP : Array Value} (h : InDm w ge gl d ZP w1) : InDm w ge gl d ZP w1.drew := h.call (Below.refl _ _).drew
theorem InDm.putR {w w1 : World} {ge gl : Nat} {d : Doc} {ZP : Array Value} (h : InDm w ge gl d ZP w1) (hge : ge < w.heap.size) (hgl : gl < w.heap.size) : InDm w ge gl d ZP (w1.setRow w.heap.size ZP) :=
  ⟨⟨by rw [setRow_other _ _ _ _ (by omega)]; exact h.doc.head, by rw [setRow_other _ _ _ _ (by omega)]; exact h.doc.rows, h.doc.sl⟩, setRow_heap _ _ _ _ _ _ h.res, by rw [setRow_other _ _ _ _ (by omega)]; exact h.non, h.only.new (Nat.le_refl _) _⟩
theorem InDm.out {w w1 : World} {ge gl n : Nat} {d : Doc} {ZP : Array Value} (h : InDm w ge gl d ZP w1) (hn : d.cs.length = n) (hZ : ZP.size = 8) {i : Nat} (hi : i < n) {M : Nat} (hM : (d.at_ i).missed = M) :
    w1.cell? ⟨ge, 3, none⟩ = some (.slice (some ⟨gl, 0, none⟩) n n) ∧ w1.cell? ⟨gl, i * 13 + 12, none⟩ = some (.int .i64 (M : Int)) ∧ FfIn w1 (w.heap.size + 1) ∧ ffOf w1 (w.heap.size + 1) = ZP ∧ PkTo w1 w.heap.size ∧ InDm w ge gl d ZP w1 := by
  refine ⟨?_, ?_, ⟨_, _, _, h.non, hZ⟩, by unfold ffOf; rw [h.non], ⟨_, _, h.res, hZ⟩, h⟩
  · have := block_cell h.doc.head 3
    rw [hn] at this
    exact this
  · rw [← hM]
    exact (h.doc.cells (by omega) rfl).2.2.2.2.2.2.2.2.2.2.2.2
theorem missed_put {w w1 : World} {ge gl gx gf gn : Nat} {d : Doc} {ZP F N : Array Value} {x : Rc} (h : InDt w ge gl d ZP gx x gf F gn N w1) {i : Nat} (hi : i < d.cs.length) (hx : d.at_ i = x) (M : Nat) :
    InDm w ge gl (d.set i { x with missed := M }) ZP (w1.setCell ⟨gl, i * 13 + 12, none⟩ (.int .i64 (M : Int))) := by
  have h2 := h.lb
  have e := heap_setCell_same w1 gl (i * 13 + 12) _ _ (.int .i64 (M : Int)) h.doc.rows
  rw [Doc.put d i 12 _ { x with missed := M } hi (by omega) (by rw [hx]; rfl)] at e
  have hl : (d.set i { x with missed := M }).cs.length = d.cs.length := by simp [Doc.set]
  refine ⟨⟨?_, e, fun j hj => ?_⟩, block_set h.res (by show w.heap.size ≠ gl; omega) _, block_set h.non (by show w.heap.size + 1 ≠ gl; omega) _, Only.setCell (S := (· = gl)) (p := ⟨gl, i * 13 + 12, none⟩) (Only.of_below h.below) rfl _⟩
  · rw [hl]
    exact block_set h.doc.head (apart_ty h.doc.head h.doc.rows (by decide)) _
  · rw [Doc.set_at _ _ _ _ hi]
    split
    · have := h.doc.sl i hi
      rw [hx] at this
      exact this
    · exact h.doc.sl j (by omega)
theorem missed_sts {w w1 : World} {B ge gl i : Nat} {d : Doc} {x : Rc} {M : Nat} (h : StsIn w B d) (hd : DocAt w ge gl d) (hi : i < d.cs.length) (hx : d.at_ i = x) (o : Only (· = gl) w w1) : StsIn w1 B (d.set i { x with missed := M }) := by
  intro j hj
  have hj' : j < d.cs.length := by simpa [Doc.set] using hj
  have key : ((d.set i { x with missed := M }).at_ j).sv = (d.at_ j).sv ∧ ((d.set i { x with missed := M }).at_ j).sts = (d.at_ j).sts := by
    rw [Doc.set_at _ _ _ _ hi]
    split
    · rename_i e; rw [e, hx]; exact ⟨rfl, rfl⟩
    · exact ⟨rfl, rfl⟩
  rw [key.1, key.2]
  refine ⟨own_same (h j hj').1 (fun q hq => ?_), (h j hj').2⟩
  obtain ⟨cur, hc⟩ := own_ty (h j hj').1 hq
  exact o.block q (block_lt hc) (fun e => apart_ty hc hd.rows (by decide) e)
theorem missed_rel {m : Rcv} {d : Doc} (hm : m.ok) (h : RelR m d) {i : Nat} (hi : i < m.cids) {c : Rx} (hc : m.at_ i = c) {x : Rc} (hx : d.at_ i = x) (M : Nat) : RelR (m.set i { c with missed := M }) (d.set i { x with missed := M }) := by
  have o := h.one i hi
  rw [hc, hx] at o
  exact h.put hm hi ⟨o.has, o.rt, o.sts, rfl, o.sent, o.tn⟩

/-- the context is made anew -/
structure InDz (w : World) (ge gl : Nat) (d : Doc) (gf : Nat) (F : Array Value) (v : Value) (n : St) (w1 : World) : Prop where
  doc : DocAt w1 ge gl d
  res : PkTo w1 w.heap.size
  fl : w1.heap[gf]? = some (.cells F 120 (0, 0))
  own : w1.ownsRow w.heap.size 128 5 v 1 (scells [n])
  only : Only (· = gl) w w1
def Rc.took (p : Pk) (t : Nat) (v : Value) (n : St) : Rc := ⟨true, p.src, p.dst, p.port, t, v, [n], 0, 0, 0, 0, 0, 0, 0⟩
theorem goodRc_took (a b c t : Int) (g : Nat) : GoodRc #[.bool true, .int .u32 a, .int .u32 b, .int .u16 c, .int .i64 t, .slice (some ⟨g, 0, none⟩) 1 1, .int .i64 0, .int .i64 0, .int .i64 0, .int .i64 0, .int .i64 0, .int .i64 0, .int .i64 0] := ⟨rfl, Array.all_eq_true_iff_forall_mem.2 (fun v hv => by
  simp only [List.mem_toArray, List.mem_cons, List.not_mem_nil, or_false] at hv
  rcases hv with e | e | e | e | e | e | e | e | e | e | e | e | e <;> (subst e; rfl))⟩
theorem took_put {w w1 : World} {ge gl gx gf gn : Nat} {d : Doc} {ZP F N : Array Value} {x : Rc} (hZ : ZP.size = 8) (h : InDt w ge gl d ZP gx x gf F gn N w1) {i : Nat} (hi : i < d.cs.length) (p : Pk) (t : Nat) (n : St) :
    InDz w ge gl (d.set i (Rc.took p t (.slice (some ⟨w1.heap.size, 0, none⟩) 1 1) n)) gf F (.slice (some ⟨w1.heap.size, 0, none⟩) 1 1) n ((w1.alloc (.cells n.flat 128)).setRow gl (putRow (rowOf (w1.alloc (.cells n.flat 128)) gl) (i * 13) (Rc.took p t (.slice (some ⟨w1.heap.size, 0, none⟩) 1 1) n).cells.toList)) := by
  have hb : Below w1.heap.size w1 (w1.alloc (.cells n.flat 128)) := (Below.refl _ _).alloc (Nat.le_refl _) _
  have h2 := h.call hb
  have hn := heap_alloc_new w1 (.cells n.flat 128)
  have hsz : w.heap.size ≤ w1.heap.size := h.below.size
  generalize w1.alloc (.cells n.flat 128) = w2 at h2 hn ⊢
  have hlb := h.lb
  have e : rowOf w2 gl = d.row.toArray := by unfold rowOf; rw [h2.doc.rows]
  have hl : (d.set i (Rc.took p t (.slice (some ⟨w1.heap.size, 0, none⟩) 1 1) n)).cs.length = d.cs.length := by simp [Doc.set]
  rw [e, Doc.putAll d _ hi]
  refine ⟨⟨?_, setRow_heap _ _ _ _ _ _ h2.doc.rows, fun j hj => ?_⟩, ⟨ZP, _, by rw [setRow_other _ _ _ _ (by omega)]; exact h2.res, hZ⟩, by rw [setRow_other _ _ _ _ (apart_ty h2.fl h2.doc.rows (by decide))]; exact h2.fl, ⟨rfl, Or.inr ⟨w1.heap.size, 1, n.flat, rfl, hsz, by rw [setRow_other _ _ _ _ (apart_ty hn h2.doc.rows (by decide))]; exact hn, Nat.le_refl _, by decide, rfl, ?_⟩⟩, Only.setRow (S := (· = gl)) (Only.of_below h2.below) rfl _⟩
  · rw [hl, setRow_other _ _ _ _ (apart_ty h2.doc.head h2.doc.rows (by decide))]; exact h2.doc.head
  · rw [Doc.set_at _ _ _ _ hi]
    split
    · exact ⟨_, _, _, rfl⟩
    · exact h2.doc.sl j (by omega)
  · simp [scells, St.flat]
theorem took_sts {w w1 : World} {B ge gl i : Nat} {d : Doc} {p : Pk} {t : Nat} {v : Value} {n : St} (h : StsIn w B d) (hd : DocAt w ge gl d) (hi : i < d.cs.length) (o : Only (· = gl) w w1) (hB : B ≤ w.heap.size) (hv : w1.ownsRow w.heap.size 128 5 v 1 (scells [n])) : StsIn w1 B (d.set i (Rc.took p t v n)) := by
  intro j hj
  have hj' : j < d.cs.length := by simpa [Doc.set] using hj
  rw [Doc.set_at _ _ _ _ hi]
  split
  · exact ⟨own_dn hv hB, by show 1 ≤ 5; decide⟩
  · refine ⟨own_same (h j hj').1 (fun q hq => ?_), (h j hj').2⟩
    obtain ⟨cur, hc⟩ := own_ty (h j hj').1 hq
    exact o.block q (block_lt hc) (fun e => apart_ty hc hd.rows (by decide) e)

attribute [local go_sem] goodRc_took

set_option maxRecDepth 100000 in
set_option maxHeartbeats 8000000 in
theorem dtake_8 (m : Rcv) (d : Doc) (l : List UInt8) (ge gl B : Nat) (w : World) (hm : m.ok) (hR : RelR m d) (hdc : d.cids = m.cids) (h : DocAt w ge gl d) (hst : StsIn w B d) (hB : B ≤ w.heap.size) (hl : l.length ≤ 9223372036854775807) (hs : shapedB l m.cids = true) (hk : (shapeF l).kind ≠ 3) (hbg : (m.at_ (shapeF l).cid).begun = false) :
    Calls Tryz.prog 32 #[.pointer (some ⟨ge, 0, none⟩), .string (bs l)] w fun e w' => DocTook m l w ge gl B e w' := by
  obtain ⟨hsh, hci⟩ := shaped_yes hs
  have hrf := readF_shape hsh
  obtain ⟨p1, p2, p3, p4⟩ := shapeF_parts l
  have s0 : 0 < (bs l).size := by rw [bs_size]; have := hsh.some_; omega
  have b0 := byte_at l 0 (by have := hsh.some_; omega) s0
  have l0 := byteN_lt l 0
  obtain ⟨I, hI⟩ : ∃ I, I = byteN l 0 / 2 % 8 := ⟨_, rfl⟩
  obtain ⟨K, hK⟩ : ∃ K, K = byteN l 0 / 64 := ⟨_, rfl⟩
  obtain ⟨TN, hTN⟩ : ∃ T, T = byteN l 0 / 16 % 4 := ⟨_, rfl⟩
  obtain ⟨H16, hH16⟩ : ∃ H, H = byteN l 0 / 16 := ⟨_, rfl⟩
  obtain ⟨H2, hH2⟩ : ∃ H, H = byteN l 0 / 2 := ⟨_, rfl⟩
  obtain ⟨Q, hQ⟩ : ∃ Q, Q = byteN l 0 := ⟨_, rfl⟩
  obtain ⟨f, hf⟩ : ∃ f, f = shapeF l := ⟨_, rfl⟩
  rw [← hf] at p1 p2 p3 hrf hk hbg
  rw [← hQ] at b0 l0 hI hK hTN hH16 hH2 p1 p2 p3 hci
  rw [← hI] at p2 hci
  rw [← hK] at p1
  rw [← hTN] at p3
  have K4 : K ≤ 3 := by omega
  have q1 : (Q : Int).tdiv 64 = (K : Int) := by rw [hK, Int.tdiv_eq_ediv_of_nonneg (by omega)]; omega
  have q1' : (Q : Int) / 64 = (K : Int) := by rw [hK]; omega
  have q2 : (Q : Int).tdiv 16 = (H16 : Int) := by rw [hH16, Int.tdiv_eq_ediv_of_nonneg (by omega)]; omega
  have q2' : (Q : Int) / 16 = (H16 : Int) := by rw [hH16]; omega
  have q3 : (H16 : Int).tmod 4 = (TN : Int) := by rw [hTN, hH16, Int.tmod_eq_emod_of_nonneg (by omega)]; omega
  have q3' : (H16 : Int) % 4 = (TN : Int) := by rw [hTN, hH16]; omega
  have q4 : (Q : Int).tdiv 2 = (H2 : Int) := by rw [hH2, Int.tdiv_eq_ediv_of_nonneg (by omega)]; omega
  have q4' : (Q : Int) / 2 = (H2 : Int) := by rw [hH2]; omega
  have q5 : (H2 : Int).tmod 8 = (I : Int) := by rw [hI, hH2, Int.tmod_eq_emod_of_nonneg (by omega)]; omega
  have q5' : (H2 : Int) % 8 = (I : Int) := by rw [hI, hH2]; omega
  have hI8 : I < 8 := by omega
  have hId : I < d.cs.length := by rw [hR.len]; exact hci
  rw [p2] at hbg
  obtain ⟨c, hc⟩ : ∃ c, m.at_ I = c := ⟨_, rfl⟩
  obtain ⟨x, hx⟩ : ∃ x, d.at_ I = x := ⟨_, rfl⟩
  rw [hc] at hbg
  have rx := hR.one I hci
  rw [hc, hx] at rx
  have cok : c.ok := by rw [← hc]; exact Rcv.at_ok hm I
  have TK := take_err (m := m) (e := 8) hrf (by rw [p2]; exact hci) (by rw [p2, hc]; unfold refusalN; rw [if_pos ⟨hk, hbg⟩]) (by decide) (by decide) hk
  rw [p2, hc] at TK
  rw [p1] at hk
  have kI : ¬ ((K : Int) = 3) := by omega
  have kI2 : ((K : Int) == 3) = false := beq_eq_false_iff_ne.2 kI
  have kI3 : ((K : Int) != 3) = true := bne_iff_ne.2 kI

  obtain ⟨ZP, hZP⟩ : ∃ ZP, ZP = zeroP.cells := ⟨_, rfl⟩
  have zvP : ∀ w, (zeroValue 43).run Tryz.prog w = .ok (.agg ZP) w := by rw [hZP]; intro w; exact Tryz.zeroValue43 w
  have gP : GoodPk ZP := by rw [hZP]; exact Pk.good zeroP
  obtain ⟨ZF, hZF⟩ : ∃ ZF : Array Value, ZF = zeroP.flat := ⟨_, rfl⟩
  have zvF : ∀ w, (zeroValue 120).run Tryz.prog w = .ok (.agg ZF) w := by rw [hZF]; intro w; exact Tryz.zeroValue120 w
  obtain ⟨Z5, hZ5⟩ : ∃ Z5 : Array Value, Z5 = St.zero.flat := ⟨_, rfl⟩
  have zv5 : ∀ w, (zeroValue 128).run Tryz.prog w = .ok (.agg Z5) w := by rw [hZ5]; intro w; exact Tryz.zeroValue128 w
  obtain ⟨Z, hZ⟩ : ∃ Z : Array Value, Z = Rc.blank.cells := ⟨_, rfl⟩
  have zv : ∀ w, (zeroValue 126).run Tryz.prog w = .ok (.agg Z) w := by rw [hZ]; intro w; exact Tryz.zeroValue126 w
  have HZP := hide hZP
  have HSH := hide (show ∀ w : World, Calls Tryz.prog 56 #[.string (bs l), .int .i64 m.cids] w fun e w' => e = .returned (.bool true) ∧ w' = w by
    intro w; have := shaped_any l m.cids w hl hm.c8; rw [hs] at this; exact this)
  have d3 : w.cell? ⟨ge, 3, none⟩ = some (.slice (some ⟨gl, 0, none⟩) m.cids m.cids) := by have := block_cell h.head 3; rw [hR.len] at this; exact this
  have hge := block_lt h.head
  have hgl := block_lt h.rows
  have hb2 : Below w.heap.size w ((w.alloc (.cells ZP 43)).alloc (.cells ZP 43)) := ((Below.refl _ _).alloc (Nat.le_refl _) _).alloc (by simp) _
  have D2 := h.keep hb2
  have r1 := D2.rcIn hId
  have r2 := D2.rcOf hId
  rw [hx] at r2
  obtain ⟨X, hX⟩ : ∃ X, X = x.cells := ⟨_, rfl⟩
  rw [← hX] at r2
  have hslx : ∃ a l c, x.sv = .slice a l c := by rw [← hx]; exact h.sl I hId
  have gs := run_storeRc_new ((w.alloc (.cells ZP 43)).alloc (.cells ZP 43)) X Z 126 (by rw [hX]; exact Rc.good_ hslx) (by rw [hZ]; rfl)
  have eW : ((w.alloc (.cells ZP 43)).alloc (.cells ZP 43)).heap.size = w.heap.size + 1 + 1 := by simp
  rw [eW] at gs
  have I5 := InDt.start h ZP ZF Z5 x
  rw [← hX] at I5
  have z1 : RcIn (((((w.alloc (.cells ZP 43)).alloc (.cells ZP 43)).alloc (.cells X 126)).alloc (.cells ZF 120)).alloc (.cells Z5 128)) (w.heap.size + 1 + 1) 0 := block_rcIn I5.cx
  have z2 : rcOf (((((w.alloc (.cells ZP 43)).alloc (.cells ZP 43)).alloc (.cells X 126)).alloc (.cells ZF 120)).alloc (.cells Z5 128)) (w.heap.size + 1 + 1) 0 = X := (block_rcOf I5.cx).trans hX.symm
  have xh : X[0]? = some (.bool false) := by rw [hX]; show some (Value.bool x.has) = _; rw [rx.has, hbg]
  have xt : X[4]? = some (.int .i64 (x.turn : Int)) := by rw [hX]; rfl
  have i0 : (0 : Int) ≤ (I : Int) := by omega
  have i1 : (I : Int) < (m.cids : Int) := by omega
  have wI : IntKind.i64.wrap (I : Int) = (I : Int) := by rw [IntKind.wrap_i64]; omega
  obtain ⟨M, hM⟩ : ∃ M, M = (c.missed + 1) % 256 := ⟨_, rfl⟩
  have hM2 := cok.missed
  have x12 : X[12]? = some (.int .i64 (c.missed : Int)) := by rw [hX, ← rx.missed]; rfl
  have v1 : IntKind.i64.wrap ((c.missed : Int) + 1) = (c.missed : Int) + 1 := by rw [IntKind.wrap_i64]; omega
  have v2 : ((c.missed : Int) + 1).tmod 256 = (M : Int) := by rw [hM, Int.tmod_eq_emod_of_nonneg (by omega)]; omega
  have v2' : ((c.missed : Int) + 1) % 256 = (M : Int) := by rw [hM]; omega
  have hM3 : M < 256 := by omega
  have v3 : IntKind.i64.wrap (M : Int) = (M : Int) := by rw [IntKind.wrap_i64]; omega

  have HI5 := hide I5
  have HXX := hide hX
  have HR := hide hR
  have HD := hide h
  have HST := hide hst
  have HHM := hide hm
  have Hc := hide hc
  have Hx := hide hx
  have HdI := hide hId
  have HLEN := hide hR.len
  have HTK := hide TK
  have HME := hide hM
  clear hX hR h hst hm hc hx hId TK D2 hb2 hsh hrf p1 p2 p3 p4 hI hK hTN hH16 hH2 hQ hf hs rx hM hZP hZF hZ5 hZ hslx hM2 I5 hbg hk
  go_enter Tryz.func32, Tryz.ntmps32
  go_upto_region 23 with ((go_at_call 56; refine (unhide HSH _).mono ?_; rintro e w1 ⟨rfl, h1⟩; have h1 := h1.symm; subst h1))
  clear r1 r2 gs eW z1 z2 zv zvF zv5 zvP q1 q1' q2 q2' q3 q3' q4 q4' q5 q5' xh xt b0 l0
  rw [unhide HXX] at HI5 ⊢
  have HI6 := HI5
  generalize ((((w.alloc (.cells ZP 43)).alloc (.cells ZP 43)).alloc (.cells x.cells 126)).alloc (.cells ZF 120)).alloc (.cells Z5 128) = W6 at HI5 HI6 ⊢
  generalize w.heap.size + 1 + 1 + 1 + 1 = gn at HI5 HI6 ⊢
  generalize w.heap.size + 1 + 1 + 1 = gf at HI5 HI6 ⊢
  generalize w.heap.size + 1 + 1 = gx at HI5 HI6 ⊢
  have m12 : W6.cell? ⟨gx, 12, none⟩ = some (.int .i64 (c.missed : Int)) := (block_cell (unhide HI6).cx 12).trans (by rw [← unhide HXX]; exact x12)
  have m12d : W6.drew.cell? ⟨gx, 12, none⟩ = some (.int .i64 (c.missed : Int)) := m12
  have e3 : W6.cell? ⟨ge, 3, none⟩ = some (.slice (some ⟨gl, 0, none⟩) m.cids m.cids) := by have := block_cell (unhide HI6).doc.head 3; rw [unhide HLEN] at this; exact this
  have e3d : W6.drew.cell? ⟨ge, 3, none⟩ = some (.slice (some ⟨gl, 0, none⟩) m.cids m.cids) := e3
  have g12 : W6.cell? ⟨gl, I * 13 + 12, none⟩ = some (.int .i64 (x.missed : Int)) := ((unhide HI6).doc.cells (unhide HdI) (unhide Hx)).2.2.2.2.2.2.2.2.2.2.2.2
  have g12d : W6.drew.cell? ⟨gl, I * 13 + 12, none⟩ = some (.int .i64 (x.missed : Int)) := g12
  have fr := block_free (unhide HI6).doc.rows (I * 13 + 12)
  have frd : W6.drew.frozen? ⟨gl, I * 13 + 12, none⟩ = false := fr
  clear x12 d3
  go_cut [13] (fun v wx => v = .int .i64 8 ∧ InDm w ge gl (d.set I { x with missed := M }) ZP wx)
  case first =>
    go_region
    all_goals
      have HM6 := hide ((missed_put (unhide HI6) (unhide HdI) (unhide Hx) M).drew)
      go_wp2_with fail
      go_meet
      case rel => exact ⟨rfl, unhide HM6⟩
  case rest =>
    obtain ⟨rfl, IM⟩ := hcut
    have HIM := hide IM
    clear IM m12 m12d e3 e3d g12 g12d fr frd v1 v2 v2' v3
    obtain ⟨d2, hd2⟩ : ∃ d2, d2 = d.set I { x with missed := M } := ⟨_, rfl⟩
    have hn2 : d2.cs.length = m.cids := by rw [hd2]; simp only [Doc.set, List.length_set]; exact unhide HLEN
    have hm2 : (d2.at_ I).missed = M := by rw [hd2, Doc.set_at _ _ _ _ (unhide HdI), if_pos rfl]
    rw [← hd2] at HIM
    have Hd2 := hide hd2
    have Hn2 := hide hn2
    have Hm2 := hide hm2
    obtain ⟨FB, hFB⟩ : ∃ FB, FB = feedN 8 M I := ⟨_, rfl⟩
    have HFB := hide hFB
    clear hd2 hn2 hm2 hFB
    go_upto_region 24 with fail
    have FIN := hide (show ∀ W : World, InDm w ge gl d2 ZP W → DocTook m l w ge gl B (.returned (.tuple #[.agg ZP, .string (bs FB), .int .i64 8])) W by
      intro W hW
      obtain ⟨t1, t2, t3, t4⟩ := unhide HTK
      refine ⟨?_, d2, ?_, ?_, hW.doc, ?_, hW.only⟩
      · rw [t1, t2, t3, unhide HFB, unhide HZP, unhide HME]; rfl
      · rw [t4, ← unhide HME, unhide Hd2]
        exact missed_rel (unhide HHM) (unhide HR) hci (unhide Hc) (unhide Hx) M
      · rw [unhide Hd2]; exact hdc
      · rw [unhide Hd2]
        exact missed_sts (unhide HST) (unhide HD) (unhide HdI) (unhide Hx) hW.only)
    have HQ := hide (unhide HIM).drew
    go_region_held3 (fun w' => w'.cell? ⟨ge, 3, none⟩ = some (.slice (some ⟨gl, 0, none⟩) m.cids m.cids) ∧ w'.cell? ⟨gl, I * 13 + 12, none⟩ = some (.int .i64 (M : Int)) ∧ FfIn w' (w.heap.size + 1) ∧ ffOf w' (w.heap.size + 1) = ZP ∧ PkTo w' w.heap.size ∧ InDm w ge gl d2 ZP w')
      ((first
        | (exact (unhide HIM).drew.out (unhide Hn2) gP.1 hci (unhide Hm2))
        | (exact (unhide (by assumption : Hid (InDm w ge gl d2 ZP _))).out (unhide Hn2) gP.1 hci (unhide Hm2))
        | (exact ((unhide (by assumption : Hid (InDm w ge gl d2 ZP _))).putR hge hgl).out (unhide Hn2) gP.1 hci (unhide Hm2))))
      ((go_at_call 58; refine (rasks_any M I 8 _ hM3 hI8 (by omega)).mono ?_; rintro e w8 ⟨rfl, hbel⟩; rw [← unhide HFB]; have HQ8 := hide (InDm.call (unhide HIM).drew hbel)))
    all_goals go_split_ands
    all_goals (have HM9 := hide ‹InDm w ge gl d2 ZP _›)
    all_goals go_wp2_with fail
    all_goals exact ret_whole3 (cs := ZP) Tryz.results32 rfl (unhide HM9).res Tryz.underlying43 rfl (by rw [gP.1]; exact infoPk) rfl (unhide FIN _ (unhide HM9))

set_option maxRecDepth 100000 in
set_option maxHeartbeats 8000000 in
theorem dtake_9 (m : Rcv) (d : Doc) (l : List UInt8) (ge gl B : Nat) (w : World) (hm : m.ok) (hR : RelR m d) (hdc : d.cids = m.cids) (h : DocAt w ge gl d) (hst : StsIn w B d) (hB : B ≤ w.heap.size) (hl : l.length ≤ 9223372036854775807) (hs : shapedB l m.cids = true) (hk : (shapeF l).kind ≠ 3) (hbg : (m.at_ (shapeF l).cid).begun = true) (htn : (m.at_ (shapeF l).cid).turn ≠ (shapeF l).turn) :
    Calls Tryz.prog 32 #[.pointer (some ⟨ge, 0, none⟩), .string (bs l)] w fun e w' => DocTook m l w ge gl B e w' := by
  obtain ⟨hsh, hci⟩ := shaped_yes hs
  have hrf := readF_shape hsh
  obtain ⟨p1, p2, p3, p4⟩ := shapeF_parts l
  have s0 : 0 < (bs l).size := by rw [bs_size]; have := hsh.some_; omega
  have b0 := byte_at l 0 (by have := hsh.some_; omega) s0
  have l0 := byteN_lt l 0
  obtain ⟨I, hI⟩ : ∃ I, I = byteN l 0 / 2 % 8 := ⟨_, rfl⟩
  obtain ⟨K, hK⟩ : ∃ K, K = byteN l 0 / 64 := ⟨_, rfl⟩
  obtain ⟨TN, hTN⟩ : ∃ T, T = byteN l 0 / 16 % 4 := ⟨_, rfl⟩
  obtain ⟨H16, hH16⟩ : ∃ H, H = byteN l 0 / 16 := ⟨_, rfl⟩
  obtain ⟨H2, hH2⟩ : ∃ H, H = byteN l 0 / 2 := ⟨_, rfl⟩
  obtain ⟨Q, hQ⟩ : ∃ Q, Q = byteN l 0 := ⟨_, rfl⟩
  obtain ⟨f, hf⟩ : ∃ f, f = shapeF l := ⟨_, rfl⟩
  rw [← hf] at p1 p2 p3 hrf hk hbg htn
  rw [← hQ] at b0 l0 hI hK hTN hH16 hH2 p1 p2 p3 hci
  rw [← hI] at p2 hci
  rw [← hK] at p1
  rw [← hTN] at p3
  have K4 : K ≤ 3 := by omega
  have q1 : (Q : Int).tdiv 64 = (K : Int) := by rw [hK, Int.tdiv_eq_ediv_of_nonneg (by omega)]; omega
  have q1' : (Q : Int) / 64 = (K : Int) := by rw [hK]; omega
  have q2 : (Q : Int).tdiv 16 = (H16 : Int) := by rw [hH16, Int.tdiv_eq_ediv_of_nonneg (by omega)]; omega
  have q2' : (Q : Int) / 16 = (H16 : Int) := by rw [hH16]; omega
  have q3 : (H16 : Int).tmod 4 = (TN : Int) := by rw [hTN, hH16, Int.tmod_eq_emod_of_nonneg (by omega)]; omega
  have q3' : (H16 : Int) % 4 = (TN : Int) := by rw [hTN, hH16]; omega
  have q4 : (Q : Int).tdiv 2 = (H2 : Int) := by rw [hH2, Int.tdiv_eq_ediv_of_nonneg (by omega)]; omega
  have q4' : (Q : Int) / 2 = (H2 : Int) := by rw [hH2]; omega
  have q5 : (H2 : Int).tmod 8 = (I : Int) := by rw [hI, hH2, Int.tmod_eq_emod_of_nonneg (by omega)]; omega
  have q5' : (H2 : Int) % 8 = (I : Int) := by rw [hI, hH2]; omega
  have hI8 : I < 8 := by omega
  have hId : I < d.cs.length := by rw [hR.len]; exact hci
  rw [p2] at hbg htn
  obtain ⟨c, hc⟩ : ∃ c, m.at_ I = c := ⟨_, rfl⟩
  obtain ⟨x, hx⟩ : ∃ x, d.at_ I = x := ⟨_, rfl⟩
  rw [hc] at hbg htn
  have rx := hR.one I hci
  rw [hc, hx] at rx
  have cok : c.ok := by rw [← hc]; exact Rcv.at_ok hm I
  have TK := take_err (m := m) (e := 9) hrf (by rw [p2]; exact hci) (by rw [p2, hc]; unfold refusalN; rw [if_neg (by rw [hbg]; simp), if_pos ⟨hk, htn⟩]) (by decide) (by decide) hk
  rw [p2, hc] at TK
  rw [p1] at hk
  rw [p3] at htn
  have kI : ¬ ((K : Int) = 3) := by omega
  have kI2 : ((K : Int) == 3) = false := beq_eq_false_iff_ne.2 kI
  have kI3 : ((K : Int) != 3) = true := bne_iff_ne.2 kI
  have tI : ¬ ((x.turn : Int) = (TN : Int)) := by have := (rx.rt hbg).2.2.2; omega
  have tI2 : ¬ (x.turn = TN) := by omega
  have tI3 : ((x.turn : Int) == (TN : Int)) = false := beq_eq_false_iff_ne.2 tI
  have tI4 : ((x.turn : Int) != (TN : Int)) = true := bne_iff_ne.2 tI

  obtain ⟨ZP, hZP⟩ : ∃ ZP, ZP = zeroP.cells := ⟨_, rfl⟩
  have zvP : ∀ w, (zeroValue 43).run Tryz.prog w = .ok (.agg ZP) w := by rw [hZP]; intro w; exact Tryz.zeroValue43 w
  have gP : GoodPk ZP := by rw [hZP]; exact Pk.good zeroP
  obtain ⟨ZF, hZF⟩ : ∃ ZF : Array Value, ZF = zeroP.flat := ⟨_, rfl⟩
  have zvF : ∀ w, (zeroValue 120).run Tryz.prog w = .ok (.agg ZF) w := by rw [hZF]; intro w; exact Tryz.zeroValue120 w
  obtain ⟨Z5, hZ5⟩ : ∃ Z5 : Array Value, Z5 = St.zero.flat := ⟨_, rfl⟩
  have zv5 : ∀ w, (zeroValue 128).run Tryz.prog w = .ok (.agg Z5) w := by rw [hZ5]; intro w; exact Tryz.zeroValue128 w
  obtain ⟨Z, hZ⟩ : ∃ Z : Array Value, Z = Rc.blank.cells := ⟨_, rfl⟩
  have zv : ∀ w, (zeroValue 126).run Tryz.prog w = .ok (.agg Z) w := by rw [hZ]; intro w; exact Tryz.zeroValue126 w
  have HZP := hide hZP
  have HSH := hide (show ∀ w : World, Calls Tryz.prog 56 #[.string (bs l), .int .i64 m.cids] w fun e w' => e = .returned (.bool true) ∧ w' = w by
    intro w; have := shaped_any l m.cids w hl hm.c8; rw [hs] at this; exact this)
  have d3 : w.cell? ⟨ge, 3, none⟩ = some (.slice (some ⟨gl, 0, none⟩) m.cids m.cids) := by have := block_cell h.head 3; rw [hR.len] at this; exact this
  have hge := block_lt h.head
  have hgl := block_lt h.rows
  have hb2 : Below w.heap.size w ((w.alloc (.cells ZP 43)).alloc (.cells ZP 43)) := ((Below.refl _ _).alloc (Nat.le_refl _) _).alloc (by simp) _
  have D2 := h.keep hb2
  have r1 := D2.rcIn hId
  have r2 := D2.rcOf hId
  rw [hx] at r2
  obtain ⟨X, hX⟩ : ∃ X, X = x.cells := ⟨_, rfl⟩
  rw [← hX] at r2
  have hslx : ∃ a l c, x.sv = .slice a l c := by rw [← hx]; exact h.sl I hId
  have gs := run_storeRc_new ((w.alloc (.cells ZP 43)).alloc (.cells ZP 43)) X Z 126 (by rw [hX]; exact Rc.good_ hslx) (by rw [hZ]; rfl)
  have eW : ((w.alloc (.cells ZP 43)).alloc (.cells ZP 43)).heap.size = w.heap.size + 1 + 1 := by simp
  rw [eW] at gs
  have I5 := InDt.start h ZP ZF Z5 x
  rw [← hX] at I5
  have z1 : RcIn (((((w.alloc (.cells ZP 43)).alloc (.cells ZP 43)).alloc (.cells X 126)).alloc (.cells ZF 120)).alloc (.cells Z5 128)) (w.heap.size + 1 + 1) 0 := block_rcIn I5.cx
  have z2 : rcOf (((((w.alloc (.cells ZP 43)).alloc (.cells ZP 43)).alloc (.cells X 126)).alloc (.cells ZF 120)).alloc (.cells Z5 128)) (w.heap.size + 1 + 1) 0 = X := (block_rcOf I5.cx).trans hX.symm
  have xh : X[0]? = some (.bool true) := by rw [hX]; show some (Value.bool x.has) = _; rw [rx.has, hbg]
  have xt : X[4]? = some (.int .i64 (x.turn : Int)) := by rw [hX]; rfl
  have i0 : (0 : Int) ≤ (I : Int) := by omega
  have i1 : (I : Int) < (m.cids : Int) := by omega
  have wI : IntKind.i64.wrap (I : Int) = (I : Int) := by rw [IntKind.wrap_i64]; omega
  obtain ⟨M, hM⟩ : ∃ M, M = (c.missed + 1) % 256 := ⟨_, rfl⟩
  have hM2 := cok.missed
  have x12 : X[12]? = some (.int .i64 (c.missed : Int)) := by rw [hX, ← rx.missed]; rfl
  have v1 : IntKind.i64.wrap ((c.missed : Int) + 1) = (c.missed : Int) + 1 := by rw [IntKind.wrap_i64]; omega
  have v2 : ((c.missed : Int) + 1).tmod 256 = (M : Int) := by rw [hM, Int.tmod_eq_emod_of_nonneg (by omega)]; omega
  have v2' : ((c.missed : Int) + 1) % 256 = (M : Int) := by rw [hM]; omega
  have hM3 : M < 256 := by omega
  have v3 : IntKind.i64.wrap (M : Int) = (M : Int) := by rw [IntKind.wrap_i64]; omega

  have HI5 := hide I5
  have HXX := hide hX
  have HR := hide hR
  have HD := hide h
  have HST := hide hst
  have HHM := hide hm
  have Hc := hide hc
  have Hx := hide hx
  have HdI := hide hId
  have HLEN := hide hR.len
  have HTK := hide TK
  have HME := hide hM
  clear hX hR h hst hm hc hx hId TK D2 hb2 hsh hrf p1 p2 p3 p4 hI hK hTN hH16 hH2 hQ hf hs rx hM hZP hZF hZ5 hZ hslx hM2 I5 hbg hk htn
  go_enter Tryz.func32, Tryz.ntmps32
  go_upto_region 23 with ((go_at_call 56; refine (unhide HSH _).mono ?_; rintro e w1 ⟨rfl, h1⟩; have h1 := h1.symm; subst h1))
  clear r1 r2 gs eW z1 z2 zv zvF zv5 zvP q1 q1' q2 q2' q3 q3' q4 q4' q5 q5' xh xt b0 l0
  rw [unhide HXX] at HI5 ⊢
  have HI6 := HI5
  generalize ((((w.alloc (.cells ZP 43)).alloc (.cells ZP 43)).alloc (.cells x.cells 126)).alloc (.cells ZF 120)).alloc (.cells Z5 128) = W6 at HI5 HI6 ⊢
  generalize w.heap.size + 1 + 1 + 1 + 1 = gn at HI5 HI6 ⊢
  generalize w.heap.size + 1 + 1 + 1 = gf at HI5 HI6 ⊢
  generalize w.heap.size + 1 + 1 = gx at HI5 HI6 ⊢
  have m12 : W6.cell? ⟨gx, 12, none⟩ = some (.int .i64 (c.missed : Int)) := (block_cell (unhide HI6).cx 12).trans (by rw [← unhide HXX]; exact x12)
  have m12d : W6.drew.cell? ⟨gx, 12, none⟩ = some (.int .i64 (c.missed : Int)) := m12
  have e3 : W6.cell? ⟨ge, 3, none⟩ = some (.slice (some ⟨gl, 0, none⟩) m.cids m.cids) := by have := block_cell (unhide HI6).doc.head 3; rw [unhide HLEN] at this; exact this
  have e3d : W6.drew.cell? ⟨ge, 3, none⟩ = some (.slice (some ⟨gl, 0, none⟩) m.cids m.cids) := e3
  have g12 : W6.cell? ⟨gl, I * 13 + 12, none⟩ = some (.int .i64 (x.missed : Int)) := ((unhide HI6).doc.cells (unhide HdI) (unhide Hx)).2.2.2.2.2.2.2.2.2.2.2.2
  have g12d : W6.drew.cell? ⟨gl, I * 13 + 12, none⟩ = some (.int .i64 (x.missed : Int)) := g12
  have fr := block_free (unhide HI6).doc.rows (I * 13 + 12)
  have frd : W6.drew.frozen? ⟨gl, I * 13 + 12, none⟩ = false := fr
  clear x12 d3
  go_cut [13] (fun v wx => v = .int .i64 9 ∧ InDm w ge gl (d.set I { x with missed := M }) ZP wx)
  case first =>
    go_region
    all_goals
      have HM6 := hide ((missed_put (unhide HI6) (unhide HdI) (unhide Hx) M).drew)
      go_wp2_with fail
      go_meet
      case rel => exact ⟨rfl, unhide HM6⟩
  case rest =>
    obtain ⟨rfl, IM⟩ := hcut
    have HIM := hide IM
    clear IM m12 m12d e3 e3d g12 g12d fr frd v1 v2 v2' v3
    obtain ⟨d2, hd2⟩ : ∃ d2, d2 = d.set I { x with missed := M } := ⟨_, rfl⟩
    have hn2 : d2.cs.length = m.cids := by rw [hd2]; simp only [Doc.set, List.length_set]; exact unhide HLEN
    have hm2 : (d2.at_ I).missed = M := by rw [hd2, Doc.set_at _ _ _ _ (unhide HdI), if_pos rfl]
    rw [← hd2] at HIM
    have Hd2 := hide hd2
    have Hn2 := hide hn2
    have Hm2 := hide hm2
    obtain ⟨FB, hFB⟩ : ∃ FB, FB = feedN 9 M I := ⟨_, rfl⟩
    have HFB := hide hFB
    clear hd2 hn2 hm2 hFB
    go_upto_region 24 with fail
    have FIN := hide (show ∀ W : World, InDm w ge gl d2 ZP W → DocTook m l w ge gl B (.returned (.tuple #[.agg ZP, .string (bs FB), .int .i64 9])) W by
      intro W hW
      obtain ⟨t1, t2, t3, t4⟩ := unhide HTK
      refine ⟨?_, d2, ?_, ?_, hW.doc, ?_, hW.only⟩
      · rw [t1, t2, t3, unhide HFB, unhide HZP, unhide HME]; rfl
      · rw [t4, ← unhide HME, unhide Hd2]
        exact missed_rel (unhide HHM) (unhide HR) hci (unhide Hc) (unhide Hx) M
      · rw [unhide Hd2]; exact hdc
      · rw [unhide Hd2]
        exact missed_sts (unhide HST) (unhide HD) (unhide HdI) (unhide Hx) hW.only)
    have HQ := hide (unhide HIM).drew
    go_region_held3 (fun w' => w'.cell? ⟨ge, 3, none⟩ = some (.slice (some ⟨gl, 0, none⟩) m.cids m.cids) ∧ w'.cell? ⟨gl, I * 13 + 12, none⟩ = some (.int .i64 (M : Int)) ∧ FfIn w' (w.heap.size + 1) ∧ ffOf w' (w.heap.size + 1) = ZP ∧ PkTo w' w.heap.size ∧ InDm w ge gl d2 ZP w')
      ((first
        | (exact (unhide HIM).drew.out (unhide Hn2) gP.1 hci (unhide Hm2))
        | (exact (unhide (by assumption : Hid (InDm w ge gl d2 ZP _))).out (unhide Hn2) gP.1 hci (unhide Hm2))
        | (exact ((unhide (by assumption : Hid (InDm w ge gl d2 ZP _))).putR hge hgl).out (unhide Hn2) gP.1 hci (unhide Hm2))))
      ((go_at_call 58; refine (rasks_any M I 9 _ hM3 hI8 (by omega)).mono ?_; rintro e w8 ⟨rfl, hbel⟩; rw [← unhide HFB]; have HQ8 := hide (InDm.call (unhide HIM).drew hbel)))
    all_goals go_split_ands
    all_goals (have HM9 := hide ‹InDm w ge gl d2 ZP _›)
    all_goals go_wp2_with fail
    all_goals exact ret_whole3 (cs := ZP) Tryz.results32 rfl (unhide HM9).res Tryz.underlying43 rfl (by rw [gP.1]; exact infoPk) rfl (unhide FIN _ (unhide HM9))

set_option maxRecDepth 100000 in
set_option maxHeartbeats 8000000 in
theorem dtake_10n (m : Rcv) (d : Doc) (l : List UInt8) (ge gl B : Nat) (w : World) (hm : m.ok) (hR : RelR m d) (hdc : d.cids = m.cids) (h : DocAt w ge gl d) (hst : StsIn w B d) (hB : B ≤ w.heap.size) (hl : l.length ≤ 9223372036854775807) (hs : shapedB l m.cids = true) (hk : (shapeF l).kind ≠ 3) (hgo : (shapeF l).kind = 3 ∨ ((m.at_ (shapeF l).cid).begun = true ∧ (m.at_ (shapeF l).cid).turn = (shapeF l).turn)) (hck : ¬ chk (widthN (shapeF l).kind) (madeN (m.at_ (shapeF l).cid) (shapeF l)) = (shapeF l).chk) :
    Calls Tryz.prog 32 #[.pointer (some ⟨ge, 0, none⟩), .string (bs l)] w fun e w' => DocTook m l w ge gl B e w' := by
  obtain ⟨hsh, hci⟩ := shaped_yes hs
  have hrf := readF_shape hsh
  obtain ⟨p1, p2, p3, p4⟩ := shapeF_parts l
  have s0 : 0 < (bs l).size := by rw [bs_size]; have := hsh.some_; omega
  have b0 := byte_at l 0 (by have := hsh.some_; omega) s0
  have l0 := byteN_lt l 0
  obtain ⟨I, hI⟩ : ∃ I, I = byteN l 0 / 2 % 8 := ⟨_, rfl⟩
  obtain ⟨K, hK⟩ : ∃ K, K = byteN l 0 / 64 := ⟨_, rfl⟩
  obtain ⟨TN, hTN⟩ : ∃ T, T = byteN l 0 / 16 % 4 := ⟨_, rfl⟩
  obtain ⟨H16, hH16⟩ : ∃ H, H = byteN l 0 / 16 := ⟨_, rfl⟩
  obtain ⟨H2, hH2⟩ : ∃ H, H = byteN l 0 / 2 := ⟨_, rfl⟩
  obtain ⟨Q, hQ⟩ : ∃ Q, Q = byteN l 0 := ⟨_, rfl⟩
  obtain ⟨f, hf⟩ : ∃ f, f = shapeF l := ⟨_, rfl⟩
  rw [← hf] at p1 p2 p3 hrf hk hgo hck
  rw [← hQ] at b0 l0 hI hK hTN hH16 hH2 p1 p2 p3 hci
  rw [← hI] at p2 hci
  rw [← hK] at p1
  rw [← hTN] at p3
  have K4 : K ≤ 3 := by omega
  have q1 : (Q : Int).tdiv 64 = (K : Int) := by rw [hK, Int.tdiv_eq_ediv_of_nonneg (by omega)]; omega
  have q1' : (Q : Int) / 64 = (K : Int) := by rw [hK]; omega
  have q2 : (Q : Int).tdiv 16 = (H16 : Int) := by rw [hH16, Int.tdiv_eq_ediv_of_nonneg (by omega)]; omega
  have q2' : (Q : Int) / 16 = (H16 : Int) := by rw [hH16]; omega
  have q3 : (H16 : Int).tmod 4 = (TN : Int) := by rw [hTN, hH16, Int.tmod_eq_emod_of_nonneg (by omega)]; omega
  have q3' : (H16 : Int) % 4 = (TN : Int) := by rw [hTN, hH16]; omega
  have q4 : (Q : Int).tdiv 2 = (H2 : Int) := by rw [hH2, Int.tdiv_eq_ediv_of_nonneg (by omega)]; omega
  have q4' : (Q : Int) / 2 = (H2 : Int) := by rw [hH2]; omega
  have q5 : (H2 : Int).tmod 8 = (I : Int) := by rw [hI, hH2, Int.tmod_eq_emod_of_nonneg (by omega)]; omega
  have q5' : (H2 : Int) % 8 = (I : Int) := by rw [hI, hH2]; omega
  have hI8 : I < 8 := by omega
  have hId : I < d.cs.length := by rw [hR.len]; exact hci
  rw [p2] at hgo hck
  obtain ⟨c, hc⟩ : ∃ c, m.at_ I = c := ⟨_, rfl⟩
  obtain ⟨x, hx⟩ : ∃ x, d.at_ I = x := ⟨_, rfl⟩
  rw [hc] at hgo hck
  have rx := hR.one I hci
  rw [hc, hx] at rx
  have cok : c.ok := by rw [← hc]; exact Rcv.at_ok hm I
  have hbg : c.begun = true ∧ c.turn = f.turn := by
    rcases hgo with e | e
    · exact absurd e hk
    · exact e
  have TK := take_err (m := m) (e := 10) hrf (by rw [p2]; exact hci) (by rw [p2, hc]; unfold refusalN; rw [if_neg (by rw [hbg.1]; simp), if_neg (by rw [hbg.2]; simp), if_neg (fun e => hck e.symm)]) (by decide) (by decide) hk
  rw [p2, hc] at TK

  have MD : ∀ W : World, Below w.heap.size w W → Calls Tryz.prog 57 #[.agg x.cells, .string (bs l)] W fun e w' => MadeIs W c l e w' := fun W hW => made_any x c l B W cok hsh (fun hk3 => by
    have hbg2 : c.begun = true ∧ c.turn = f.turn := by
      rcases hgo with e | e
      · exact absurd ((shapeF_parts l).1.symm.trans ((congrArg Fr.kind hf).symm.trans e)) hk3
      · exact e
    obtain ⟨r1, r2, r3, r4⟩ := rx.rt hbg2.1
    refine ⟨⟨r1, r2, r3⟩, ?_⟩
    have o := (hst I hId).1
    rw [hx] at o
    have e : x.sts = [c.st] := by rw [rx.sts, if_pos hbg2.1]
    rw [e] at o
    exact own_same o (fun q hq => by obtain ⟨cur, hcq⟩ := own_ty o hq; exact hW.block q (block_lt hcq)))
  obtain ⟨FP, hFP⟩ : ∃ FP, FP = (madeN c f).flat := ⟨_, rfl⟩
  obtain ⟨NP, hNP⟩ : ∃ NP, NP = (followN c f).st.flat := ⟨_, rfl⟩
  have gFP : GoodFf FP := by rw [hFP]; exact Pk.goodFf _
  have gNP : GoodRs NP := by rw [hNP]; exact St.goodRs _
  have HMD := hide (show ∀ W : World, Below w.heap.size w W → Calls Tryz.prog 57 #[.agg x.cells, .string (bs l)] W fun e w' => e = .returned (.tuple #[.agg FP, .agg NP, .bool false]) ∧ Below W.heap.size W w' by
    intro W hW
    refine (MD W hW).mono ?_
    rintro e w' ⟨rfl, hb⟩
    refine ⟨?_, hb⟩
    rw [← hf, ← hFP, ← hNP, decide_eq_false hck])
  have HFP := hide hFP
  have HNP := hide hNP
  clear MD hFP hNP
  rw [p1] at hk
  have kI : ¬ ((K : Int) = 3) := by omega
  have kI2 : ((K : Int) == 3) = false := beq_eq_false_iff_ne.2 kI
  have kI3 : ((K : Int) != 3) = true := bne_iff_ne.2 kI
  have tI0 : x.turn = TN := by rw [(rx.rt hbg.1).2.2.2, hbg.2, p3]
  have tI : (x.turn : Int) = (TN : Int) := by omega
  have tI3 : ((x.turn : Int) == (TN : Int)) = true := beq_iff_eq.2 tI
  have tI4 : ((x.turn : Int) != (TN : Int)) = false := by rw [bne, tI3]; rfl

  obtain ⟨ZP, hZP⟩ : ∃ ZP, ZP = zeroP.cells := ⟨_, rfl⟩
  have zvP : ∀ w, (zeroValue 43).run Tryz.prog w = .ok (.agg ZP) w := by rw [hZP]; intro w; exact Tryz.zeroValue43 w
  have gP : GoodPk ZP := by rw [hZP]; exact Pk.good zeroP
  obtain ⟨ZF, hZF⟩ : ∃ ZF : Array Value, ZF = zeroP.flat := ⟨_, rfl⟩
  have zvF : ∀ w, (zeroValue 120).run Tryz.prog w = .ok (.agg ZF) w := by rw [hZF]; intro w; exact Tryz.zeroValue120 w
  obtain ⟨Z5, hZ5⟩ : ∃ Z5 : Array Value, Z5 = St.zero.flat := ⟨_, rfl⟩
  have zv5 : ∀ w, (zeroValue 128).run Tryz.prog w = .ok (.agg Z5) w := by rw [hZ5]; intro w; exact Tryz.zeroValue128 w
  obtain ⟨Z, hZ⟩ : ∃ Z : Array Value, Z = Rc.blank.cells := ⟨_, rfl⟩
  have zv : ∀ w, (zeroValue 126).run Tryz.prog w = .ok (.agg Z) w := by rw [hZ]; intro w; exact Tryz.zeroValue126 w
  have HZP := hide hZP
  have HSH := hide (show ∀ w : World, Calls Tryz.prog 56 #[.string (bs l), .int .i64 m.cids] w fun e w' => e = .returned (.bool true) ∧ w' = w by
    intro w; have := shaped_any l m.cids w hl hm.c8; rw [hs] at this; exact this)
  have d3 : w.cell? ⟨ge, 3, none⟩ = some (.slice (some ⟨gl, 0, none⟩) m.cids m.cids) := by have := block_cell h.head 3; rw [hR.len] at this; exact this
  have hge := block_lt h.head
  have hgl := block_lt h.rows
  have hb2 : Below w.heap.size w ((w.alloc (.cells ZP 43)).alloc (.cells ZP 43)) := ((Below.refl _ _).alloc (Nat.le_refl _) _).alloc (by simp) _
  have D2 := h.keep hb2
  have r1 := D2.rcIn hId
  have r2 := D2.rcOf hId
  rw [hx] at r2
  obtain ⟨X, hX⟩ : ∃ X, X = x.cells := ⟨_, rfl⟩
  rw [← hX] at r2
  have hslx : ∃ a l c, x.sv = .slice a l c := by rw [← hx]; exact h.sl I hId
  have gs := run_storeRc_new ((w.alloc (.cells ZP 43)).alloc (.cells ZP 43)) X Z 126 (by rw [hX]; exact Rc.good_ hslx) (by rw [hZ]; rfl)
  have eW : ((w.alloc (.cells ZP 43)).alloc (.cells ZP 43)).heap.size = w.heap.size + 1 + 1 := by simp
  rw [eW] at gs
  have I5 := InDt.start h ZP ZF Z5 x
  rw [← hX] at I5
  have z1 : RcIn (((((w.alloc (.cells ZP 43)).alloc (.cells ZP 43)).alloc (.cells X 126)).alloc (.cells ZF 120)).alloc (.cells Z5 128)) (w.heap.size + 1 + 1) 0 := block_rcIn I5.cx
  have z2 : rcOf (((((w.alloc (.cells ZP 43)).alloc (.cells ZP 43)).alloc (.cells X 126)).alloc (.cells ZF 120)).alloc (.cells Z5 128)) (w.heap.size + 1 + 1) 0 = X := (block_rcOf I5.cx).trans hX.symm
  have xh : X[0]? = some (.bool true) := by rw [hX]; show some (Value.bool x.has) = _; rw [rx.has, hbg.1]
  have xt : X[4]? = some (.int .i64 (x.turn : Int)) := by rw [hX]; rfl
  have i0 : (0 : Int) ≤ (I : Int) := by omega
  have i1 : (I : Int) < (m.cids : Int) := by omega
  have wI : IntKind.i64.wrap (I : Int) = (I : Int) := by rw [IntKind.wrap_i64]; omega
  obtain ⟨M, hM⟩ : ∃ M, M = (c.missed + 1) % 256 := ⟨_, rfl⟩
  have hM2 := cok.missed
  have x12 : X[12]? = some (.int .i64 (c.missed : Int)) := by rw [hX, ← rx.missed]; rfl
  have v1 : IntKind.i64.wrap ((c.missed : Int) + 1) = (c.missed : Int) + 1 := by rw [IntKind.wrap_i64]; omega
  have v2 : ((c.missed : Int) + 1).tmod 256 = (M : Int) := by rw [hM, Int.tmod_eq_emod_of_nonneg (by omega)]; omega
  have v2' : ((c.missed : Int) + 1) % 256 = (M : Int) := by rw [hM]; omega
  have hM3 : M < 256 := by omega
  have v3 : IntKind.i64.wrap (M : Int) = (M : Int) := by rw [IntKind.wrap_i64]; omega

  have HzF := hide (show ZF.size = 8 by rw [hZF]; rfl)
  have Hz5 := hide (show Z5.size = 5 by rw [hZ5]; rfl)
  have HI5 := hide I5
  have HI5x := hide (InDt.start h ZP ZF Z5 x)
  have HXX := hide hX
  have HR := hide hR
  have HD := hide h
  have HST := hide hst
  have HHM := hide hm
  have Hc := hide hc
  have Hx := hide hx
  have HdI := hide hId
  have HLEN := hide hR.len
  have HTK := hide TK
  have HME := hide hM
  clear hX hR h hst hm hc hx hId TK D2 hb2 hsh hrf p1 p2 p3 p4 hI hK hTN hH16 hH2 hQ hf hs rx hM hZP hZF hZ5 hZ hslx hM2 I5 hbg hgo hck hk tI0
  go_enter Tryz.func32, Tryz.ntmps32
  go_upto_region 23 with (first | (go_at_call 56; refine (unhide HSH _).mono ?_; rintro e w1 ⟨rfl, h1⟩; have h1 := h1.symm; subst h1) | (go_at_call 57; rw [unhide HXX]; refine (unhide HMD _ (unhide HI5x).below).mono ?_; rintro e w7 ⟨rfl, hb7⟩; rw [← unhide HXX]; have HI7 := hide ((unhide HI5x).call hb7); have gzF : FfTo w7 (w.heap.size + 1 + 1 + 1) := ⟨_, _, (unhide HI7).fl, unhide HzF⟩; have gzN : RsIn (w7.setRow (w.heap.size + 1 + 1 + 1) FP) (w.heap.size + 1 + 1 + 1 + 1) := ⟨_, _, ((unhide HI7).putF FP).st, unhide Hz5⟩; clear hb7))
  clear r1 r2 gs eW z1 z2 zv zvF zv5 zvP HI5 HI5x gzF gzN q1 q1' q2 q2' q3 q3' q4 q4' q5 q5' xh xt b0 l0
  have HI6 := hide (((unhide HI7).putF FP).putN NP)
  rw [unhide HXX]
  generalize (w7.setRow (w.heap.size + 1 + 1 + 1) FP).setRow (w.heap.size + 1 + 1 + 1 + 1) NP = W6 at HI6 ⊢
  generalize w.heap.size + 1 + 1 + 1 + 1 = gn at HI6 ⊢
  generalize w.heap.size + 1 + 1 + 1 = gf at HI6 ⊢
  generalize w.heap.size + 1 + 1 = gx at HI6 ⊢
  have m12 : W6.cell? ⟨gx, 12, none⟩ = some (.int .i64 (c.missed : Int)) := (block_cell (unhide HI6).cx 12).trans (by rw [← unhide HXX]; exact x12)
  have m12d : W6.drew.cell? ⟨gx, 12, none⟩ = some (.int .i64 (c.missed : Int)) := m12
  have e3 : W6.cell? ⟨ge, 3, none⟩ = some (.slice (some ⟨gl, 0, none⟩) m.cids m.cids) := by have := block_cell (unhide HI6).doc.head 3; rw [unhide HLEN] at this; exact this
  have e3d : W6.drew.cell? ⟨ge, 3, none⟩ = some (.slice (some ⟨gl, 0, none⟩) m.cids m.cids) := e3
  have g12 : W6.cell? ⟨gl, I * 13 + 12, none⟩ = some (.int .i64 (x.missed : Int)) := ((unhide HI6).doc.cells (unhide HdI) (unhide Hx)).2.2.2.2.2.2.2.2.2.2.2.2
  have g12d : W6.drew.cell? ⟨gl, I * 13 + 12, none⟩ = some (.int .i64 (x.missed : Int)) := g12
  have fr := block_free (unhide HI6).doc.rows (I * 13 + 12)
  have frd : W6.drew.frozen? ⟨gl, I * 13 + 12, none⟩ = false := fr
  clear x12 d3
  go_cut [13] (fun v wx => v = .int .i64 10 ∧ InDm w ge gl (d.set I { x with missed := M }) ZP wx)
  case first =>
    go_region
    all_goals
      have HM6 := hide ((missed_put (unhide HI6) (unhide HdI) (unhide Hx) M).drew)
      go_wp2_with fail
      go_meet
      case rel => exact ⟨rfl, unhide HM6⟩
  case rest =>
    obtain ⟨rfl, IM⟩ := hcut
    have HIM := hide IM
    clear IM m12 m12d e3 e3d g12 g12d fr frd v1 v2 v2' v3
    obtain ⟨d2, hd2⟩ : ∃ d2, d2 = d.set I { x with missed := M } := ⟨_, rfl⟩
    have hn2 : d2.cs.length = m.cids := by rw [hd2]; simp only [Doc.set, List.length_set]; exact unhide HLEN
    have hm2 : (d2.at_ I).missed = M := by rw [hd2, Doc.set_at _ _ _ _ (unhide HdI), if_pos rfl]
    rw [← hd2] at HIM
    have Hd2 := hide hd2
    have Hn2 := hide hn2
    have Hm2 := hide hm2
    obtain ⟨FB, hFB⟩ : ∃ FB, FB = feedN 10 M I := ⟨_, rfl⟩
    have HFB := hide hFB
    clear hd2 hn2 hm2 hFB
    go_upto_region 24 with fail
    have FIN := hide (show ∀ W : World, InDm w ge gl d2 ZP W → DocTook m l w ge gl B (.returned (.tuple #[.agg ZP, .string (bs FB), .int .i64 10])) W by
      intro W hW
      obtain ⟨t1, t2, t3, t4⟩ := unhide HTK
      refine ⟨?_, d2, ?_, ?_, hW.doc, ?_, hW.only⟩
      · rw [t1, t2, t3, unhide HFB, unhide HZP, unhide HME]; rfl
      · rw [t4, ← unhide HME, unhide Hd2]
        exact missed_rel (unhide HHM) (unhide HR) hci (unhide Hc) (unhide Hx) M
      · rw [unhide Hd2]; exact hdc
      · rw [unhide Hd2]
        exact missed_sts (unhide HST) (unhide HD) (unhide HdI) (unhide Hx) hW.only)
    have HQ := hide (unhide HIM).drew
    go_region_held3 (fun w' => w'.cell? ⟨ge, 3, none⟩ = some (.slice (some ⟨gl, 0, none⟩) m.cids m.cids) ∧ w'.cell? ⟨gl, I * 13 + 12, none⟩ = some (.int .i64 (M : Int)) ∧ FfIn w' (w.heap.size + 1) ∧ ffOf w' (w.heap.size + 1) = ZP ∧ PkTo w' w.heap.size ∧ InDm w ge gl d2 ZP w')
      ((first
        | (exact (unhide HIM).drew.out (unhide Hn2) gP.1 hci (unhide Hm2))
        | (exact (unhide (by assumption : Hid (InDm w ge gl d2 ZP _))).out (unhide Hn2) gP.1 hci (unhide Hm2))
        | (exact ((unhide (by assumption : Hid (InDm w ge gl d2 ZP _))).putR hge hgl).out (unhide Hn2) gP.1 hci (unhide Hm2))))
      ((go_at_call 58; refine (rasks_any M I 10 _ hM3 hI8 (by omega)).mono ?_; rintro e w8 ⟨rfl, hbel⟩; rw [← unhide HFB]; have HQ8 := hide (InDm.call (unhide HIM).drew hbel)))
    all_goals go_split_ands
    all_goals (have HM9 := hide ‹InDm w ge gl d2 ZP _›)
    all_goals go_wp2_with fail
    all_goals exact ret_whole3 (cs := ZP) Tryz.results32 rfl (unhide HM9).res Tryz.underlying43 rfl (by rw [gP.1]; exact infoPk) rfl (unhide FIN _ (unhide HM9))

set_option maxRecDepth 100000 in
set_option maxHeartbeats 8000000 in
theorem dtake_10w (m : Rcv) (d : Doc) (l : List UInt8) (ge gl B : Nat) (w : World) (hm : m.ok) (hR : RelR m d) (hdc : d.cids = m.cids) (h : DocAt w ge gl d) (hst : StsIn w B d) (hB : B ≤ w.heap.size) (hl : l.length ≤ 9223372036854775807) (hs : shapedB l m.cids = true) (hk : (shapeF l).kind = 3) (hgo : (shapeF l).kind = 3 ∨ ((m.at_ (shapeF l).cid).begun = true ∧ (m.at_ (shapeF l).cid).turn = (shapeF l).turn)) (hck : ¬ chk (widthN (shapeF l).kind) (madeN (m.at_ (shapeF l).cid) (shapeF l)) = (shapeF l).chk) :
    Calls Tryz.prog 32 #[.pointer (some ⟨ge, 0, none⟩), .string (bs l)] w fun e w' => DocTook m l w ge gl B e w' := by
  obtain ⟨hsh, hci⟩ := shaped_yes hs
  have hrf := readF_shape hsh
  obtain ⟨p1, p2, p3, p4⟩ := shapeF_parts l
  have s0 : 0 < (bs l).size := by rw [bs_size]; have := hsh.some_; omega
  have b0 := byte_at l 0 (by have := hsh.some_; omega) s0
  have l0 := byteN_lt l 0
  obtain ⟨I, hI⟩ : ∃ I, I = byteN l 0 / 2 % 8 := ⟨_, rfl⟩
  obtain ⟨K, hK⟩ : ∃ K, K = byteN l 0 / 64 := ⟨_, rfl⟩
  obtain ⟨TN, hTN⟩ : ∃ T, T = byteN l 0 / 16 % 4 := ⟨_, rfl⟩
  obtain ⟨H16, hH16⟩ : ∃ H, H = byteN l 0 / 16 := ⟨_, rfl⟩
  obtain ⟨H2, hH2⟩ : ∃ H, H = byteN l 0 / 2 := ⟨_, rfl⟩
  obtain ⟨Q, hQ⟩ : ∃ Q, Q = byteN l 0 := ⟨_, rfl⟩
  obtain ⟨f, hf⟩ : ∃ f, f = shapeF l := ⟨_, rfl⟩
  rw [← hf] at p1 p2 p3 hrf hk hgo hck
  rw [← hQ] at b0 l0 hI hK hTN hH16 hH2 p1 p2 p3 hci
  rw [← hI] at p2 hci
  rw [← hK] at p1
  rw [← hTN] at p3
  have K4 : K ≤ 3 := by omega
  have q1 : (Q : Int).tdiv 64 = (K : Int) := by rw [hK, Int.tdiv_eq_ediv_of_nonneg (by omega)]; omega
  have q1' : (Q : Int) / 64 = (K : Int) := by rw [hK]; omega
  have q2 : (Q : Int).tdiv 16 = (H16 : Int) := by rw [hH16, Int.tdiv_eq_ediv_of_nonneg (by omega)]; omega
  have q2' : (Q : Int) / 16 = (H16 : Int) := by rw [hH16]; omega
  have q3 : (H16 : Int).tmod 4 = (TN : Int) := by rw [hTN, hH16, Int.tmod_eq_emod_of_nonneg (by omega)]; omega
  have q3' : (H16 : Int) % 4 = (TN : Int) := by rw [hTN, hH16]; omega
  have q4 : (Q : Int).tdiv 2 = (H2 : Int) := by rw [hH2, Int.tdiv_eq_ediv_of_nonneg (by omega)]; omega
  have q4' : (Q : Int) / 2 = (H2 : Int) := by rw [hH2]; omega
  have q5 : (H2 : Int).tmod 8 = (I : Int) := by rw [hI, hH2, Int.tmod_eq_emod_of_nonneg (by omega)]; omega
  have q5' : (H2 : Int) % 8 = (I : Int) := by rw [hI, hH2]; omega
  have hI8 : I < 8 := by omega
  have hId : I < d.cs.length := by rw [hR.len]; exact hci
  rw [p2] at hgo hck
  obtain ⟨c, hc⟩ : ∃ c, m.at_ I = c := ⟨_, rfl⟩
  obtain ⟨x, hx⟩ : ∃ x, d.at_ I = x := ⟨_, rfl⟩
  rw [hc] at hgo hck
  have rx := hR.one I hci
  rw [hc, hx] at rx
  have cok : c.ok := by rw [← hc]; exact Rcv.at_ok hm I
  have TK := take_errw (m := m) (e := 10) hrf (by rw [p2]; exact hci) (by rw [p2, hc]; unfold refusalN; rw [if_neg (fun e => e.1 hk), if_neg (fun e => e.1 hk), if_neg (fun e => hck e.symm)]) (by decide) (by decide) hk

  have MD : ∀ W : World, Below w.heap.size w W → Calls Tryz.prog 57 #[.agg x.cells, .string (bs l)] W fun e w' => MadeIs W c l e w' := fun W hW => made_any x c l B W cok hsh (fun hk3 => by
    have hbg2 : c.begun = true ∧ c.turn = f.turn := by
      rcases hgo with e | e
      · exact absurd ((shapeF_parts l).1.symm.trans ((congrArg Fr.kind hf).symm.trans e)) hk3
      · exact e
    obtain ⟨r1, r2, r3, r4⟩ := rx.rt hbg2.1
    refine ⟨⟨r1, r2, r3⟩, ?_⟩
    have o := (hst I hId).1
    rw [hx] at o
    have e : x.sts = [c.st] := by rw [rx.sts, if_pos hbg2.1]
    rw [e] at o
    exact own_same o (fun q hq => by obtain ⟨cur, hcq⟩ := own_ty o hq; exact hW.block q (block_lt hcq)))
  obtain ⟨FP, hFP⟩ : ∃ FP, FP = (madeN c f).flat := ⟨_, rfl⟩
  obtain ⟨NP, hNP⟩ : ∃ NP, NP = (followN c f).st.flat := ⟨_, rfl⟩
  have gFP : GoodFf FP := by rw [hFP]; exact Pk.goodFf _
  have gNP : GoodRs NP := by rw [hNP]; exact St.goodRs _
  have HMD := hide (show ∀ W : World, Below w.heap.size w W → Calls Tryz.prog 57 #[.agg x.cells, .string (bs l)] W fun e w' => e = .returned (.tuple #[.agg FP, .agg NP, .bool false]) ∧ Below W.heap.size W w' by
    intro W hW
    refine (MD W hW).mono ?_
    rintro e w' ⟨rfl, hb⟩
    refine ⟨?_, hb⟩
    rw [← hf, ← hFP, ← hNP, decide_eq_false hck])
  have HFP := hide hFP
  have HNP := hide hNP
  clear MD hFP hNP
  rw [p1] at hk
  have kI : (K : Int) = 3 := by omega
  have kI2 : ((K : Int) == 3) = true := beq_iff_eq.2 kI
  have kI3 : ((K : Int) != 3) = false := by rw [bne, kI2]; rfl

  obtain ⟨ZP, hZP⟩ : ∃ ZP, ZP = zeroP.cells := ⟨_, rfl⟩
  have zvP : ∀ w, (zeroValue 43).run Tryz.prog w = .ok (.agg ZP) w := by rw [hZP]; intro w; exact Tryz.zeroValue43 w
  have gP : GoodPk ZP := by rw [hZP]; exact Pk.good zeroP
  obtain ⟨ZF, hZF⟩ : ∃ ZF : Array Value, ZF = zeroP.flat := ⟨_, rfl⟩
  have zvF : ∀ w, (zeroValue 120).run Tryz.prog w = .ok (.agg ZF) w := by rw [hZF]; intro w; exact Tryz.zeroValue120 w
  obtain ⟨Z5, hZ5⟩ : ∃ Z5 : Array Value, Z5 = St.zero.flat := ⟨_, rfl⟩
  have zv5 : ∀ w, (zeroValue 128).run Tryz.prog w = .ok (.agg Z5) w := by rw [hZ5]; intro w; exact Tryz.zeroValue128 w
  obtain ⟨Z, hZ⟩ : ∃ Z : Array Value, Z = Rc.blank.cells := ⟨_, rfl⟩
  have zv : ∀ w, (zeroValue 126).run Tryz.prog w = .ok (.agg Z) w := by rw [hZ]; intro w; exact Tryz.zeroValue126 w
  have HZP := hide hZP
  have HSH := hide (show ∀ w : World, Calls Tryz.prog 56 #[.string (bs l), .int .i64 m.cids] w fun e w' => e = .returned (.bool true) ∧ w' = w by
    intro w; have := shaped_any l m.cids w hl hm.c8; rw [hs] at this; exact this)
  have d3 : w.cell? ⟨ge, 3, none⟩ = some (.slice (some ⟨gl, 0, none⟩) m.cids m.cids) := by have := block_cell h.head 3; rw [hR.len] at this; exact this
  have hge := block_lt h.head
  have hgl := block_lt h.rows
  have hb2 : Below w.heap.size w ((w.alloc (.cells ZP 43)).alloc (.cells ZP 43)) := ((Below.refl _ _).alloc (Nat.le_refl _) _).alloc (by simp) _
  have D2 := h.keep hb2
  have r1 := D2.rcIn hId
  have r2 := D2.rcOf hId
  rw [hx] at r2
  obtain ⟨X, hX⟩ : ∃ X, X = x.cells := ⟨_, rfl⟩
  rw [← hX] at r2
  have hslx : ∃ a l c, x.sv = .slice a l c := by rw [← hx]; exact h.sl I hId
  have gs := run_storeRc_new ((w.alloc (.cells ZP 43)).alloc (.cells ZP 43)) X Z 126 (by rw [hX]; exact Rc.good_ hslx) (by rw [hZ]; rfl)
  have eW : ((w.alloc (.cells ZP 43)).alloc (.cells ZP 43)).heap.size = w.heap.size + 1 + 1 := by simp
  rw [eW] at gs
  have I5 := InDt.start h ZP ZF Z5 x
  rw [← hX] at I5
  have z1 : RcIn (((((w.alloc (.cells ZP 43)).alloc (.cells ZP 43)).alloc (.cells X 126)).alloc (.cells ZF 120)).alloc (.cells Z5 128)) (w.heap.size + 1 + 1) 0 := block_rcIn I5.cx
  have z2 : rcOf (((((w.alloc (.cells ZP 43)).alloc (.cells ZP 43)).alloc (.cells X 126)).alloc (.cells ZF 120)).alloc (.cells Z5 128)) (w.heap.size + 1 + 1) 0 = X := (block_rcOf I5.cx).trans hX.symm
  have xh : X[0]? = some (.bool x.has) := by rw [hX]; rfl
  have xt : X[4]? = some (.int .i64 (x.turn : Int)) := by rw [hX]; rfl
  have i0 : (0 : Int) ≤ (I : Int) := by omega
  have i1 : (I : Int) < (m.cids : Int) := by omega
  have wI : IntKind.i64.wrap (I : Int) = (I : Int) := by rw [IntKind.wrap_i64]; omega
  obtain ⟨M, hM⟩ : ∃ M, M = (c.missed + 1) % 256 := ⟨_, rfl⟩
  have hM2 := cok.missed
  have x12 : X[12]? = some (.int .i64 (c.missed : Int)) := by rw [hX, ← rx.missed]; rfl
  have v1 : IntKind.i64.wrap ((c.missed : Int) + 1) = (c.missed : Int) + 1 := by rw [IntKind.wrap_i64]; omega
  have v2 : ((c.missed : Int) + 1).tmod 256 = (M : Int) := by rw [hM, Int.tmod_eq_emod_of_nonneg (by omega)]; omega
  have v2' : ((c.missed : Int) + 1) % 256 = (M : Int) := by rw [hM]; omega
  have hM3 : M < 256 := by omega
  have v3 : IntKind.i64.wrap (M : Int) = (M : Int) := by rw [IntKind.wrap_i64]; omega

  have HzF := hide (show ZF.size = 8 by rw [hZF]; rfl)
  have Hz5 := hide (show Z5.size = 5 by rw [hZ5]; rfl)
  have HI5 := hide I5
  have HI5x := hide (InDt.start h ZP ZF Z5 x)
  have HXX := hide hX
  have HR := hide hR
  have HD := hide h
  have HST := hide hst
  have HHM := hide hm
  have Hc := hide hc
  have Hx := hide hx
  have HdI := hide hId
  have HLEN := hide hR.len
  have HTK := hide TK
  clear hX hR h hst hm hc hx hId TK D2 hb2 hsh hrf p1 p2 p3 p4 hI hK hTN hH16 hH2 hQ hf hs rx hM hZP hZF hZ5 hZ hslx hM2 I5 hgo hck hk
  go_enter Tryz.func32, Tryz.ntmps32
  go_wp2_with (first | (go_at_call 56; refine (unhide HSH _).mono ?_; rintro e w1 ⟨rfl, h1⟩; have h1 := h1.symm; subst h1) | (go_at_call 57; rw [unhide HXX]; refine (unhide HMD _ (unhide HI5x).below).mono ?_; rintro e w7 ⟨rfl, hb7⟩; rw [← unhide HXX]; have HI7 := hide ((unhide HI5x).call hb7); have gzF : FfTo w7 (w.heap.size + 1 + 1 + 1) := ⟨_, _, (unhide HI7).fl, unhide HzF⟩; have gzN : RsIn (w7.setRow (w.heap.size + 1 + 1 + 1) FP) (w.heap.size + 1 + 1 + 1 + 1) := ⟨_, _, ((unhide HI7).putF FP).st, unhide Hz5⟩; have I8 := ((unhide HI7).putF FP).putN NP; have y1 : FfIn ((w7.setRow (w.heap.size + 1 + 1 + 1) FP).setRow (w.heap.size + 1 + 1 + 1 + 1) NP) (w.heap.size + 1) := ⟨_, _, _, I8.non, gP.1⟩; have y2 : ffOf ((w7.setRow (w.heap.size + 1 + 1 + 1) FP).setRow (w.heap.size + 1 + 1 + 1 + 1) NP) (w.heap.size + 1) = ZP := (by unfold ffOf; rw [I8.non]); have y3 : PkTo ((w7.setRow (w.heap.size + 1 + 1 + 1) FP).setRow (w.heap.size + 1 + 1 + 1 + 1) NP) w.heap.size := ⟨_, _, I8.res, gP.1⟩; have HI8 := hide I8; clear hb7 I8))
  have hb9 : Below w.heap.size w (((w7.setRow (w.heap.size + 1 + 1 + 1) FP).setRow (w.heap.size + 1 + 1 + 1 + 1) NP).setRow w.heap.size ZP) := below_setRow (unhide HI8).below (Nat.le_refl _) _
  have fin : DocTook m l w ge gl B (.returned (.tuple #[.agg ZP, .string (bs []), .int .i64 10])) (((w7.setRow (w.heap.size + 1 + 1 + 1) FP).setRow (w.heap.size + 1 + 1 + 1 + 1) NP).setRow w.heap.size ZP) := by
    obtain ⟨t1, t2, t3, t4⟩ := unhide HTK
    refine ⟨by rw [t1, t2, t3, unhide HZP]; rfl, d, by rw [t4]; exact unhide HR, hdc, (unhide HD).keep hb9, StsIn.same (unhide HST) (fun q cs hq => hb9.block q (block_lt hq)), Only.of_below hb9⟩
  exact ret_whole3 (cs := ZP) Tryz.results32 rfl (setRow_heap _ _ _ _ _ _ (unhide HI8).res) Tryz.underlying43 rfl (by rw [gP.1]; exact infoPk) rfl fin

set_option maxRecDepth 100000 in
set_option maxHeartbeats 8000000 in
theorem dtake_0w (m : Rcv) (d : Doc) (l : List UInt8) (ge gl B : Nat) (w : World) (hm : m.ok) (hR : RelR m d) (hdc : d.cids = m.cids) (h : DocAt w ge gl d) (hst : StsIn w B d) (hB : B ≤ w.heap.size) (hl : l.length ≤ 9223372036854775807) (hs : shapedB l m.cids = true) (hk : (shapeF l).kind = 3) (hgo : (shapeF l).kind = 3 ∨ ((m.at_ (shapeF l).cid).begun = true ∧ (m.at_ (shapeF l).cid).turn = (shapeF l).turn)) (hck : chk (widthN (shapeF l).kind) (madeN (m.at_ (shapeF l).cid) (shapeF l)) = (shapeF l).chk) :
    Calls Tryz.prog 32 #[.pointer (some ⟨ge, 0, none⟩), .string (bs l)] w fun e w' => DocTook m l w ge gl B e w' := by
  obtain ⟨hsh, hci⟩ := shaped_yes hs
  have hrf := readF_shape hsh
  obtain ⟨p1, p2, p3, p4⟩ := shapeF_parts l
  have s0 : 0 < (bs l).size := by rw [bs_size]; have := hsh.some_; omega
  have b0 := byte_at l 0 (by have := hsh.some_; omega) s0
  have l0 := byteN_lt l 0
  obtain ⟨I, hI⟩ : ∃ I, I = byteN l 0 / 2 % 8 := ⟨_, rfl⟩
  obtain ⟨K, hK⟩ : ∃ K, K = byteN l 0 / 64 := ⟨_, rfl⟩
  obtain ⟨TN, hTN⟩ : ∃ T, T = byteN l 0 / 16 % 4 := ⟨_, rfl⟩
  obtain ⟨H16, hH16⟩ : ∃ H, H = byteN l 0 / 16 := ⟨_, rfl⟩
  obtain ⟨H2, hH2⟩ : ∃ H, H = byteN l 0 / 2 := ⟨_, rfl⟩
  obtain ⟨Q, hQ⟩ : ∃ Q, Q = byteN l 0 := ⟨_, rfl⟩
  obtain ⟨f, hf⟩ : ∃ f, f = shapeF l := ⟨_, rfl⟩
  rw [← hf] at p1 p2 p3 hrf hk hgo hck
  rw [← hQ] at b0 l0 hI hK hTN hH16 hH2 p1 p2 p3 hci
  rw [← hI] at p2 hci
  rw [← hK] at p1
  rw [← hTN] at p3
  have K4 : K ≤ 3 := by omega
  have q1 : (Q : Int).tdiv 64 = (K : Int) := by rw [hK, Int.tdiv_eq_ediv_of_nonneg (by omega)]; omega
  have q1' : (Q : Int) / 64 = (K : Int) := by rw [hK]; omega
  have q2 : (Q : Int).tdiv 16 = (H16 : Int) := by rw [hH16, Int.tdiv_eq_ediv_of_nonneg (by omega)]; omega
  have q2' : (Q : Int) / 16 = (H16 : Int) := by rw [hH16]; omega
  have q3 : (H16 : Int).tmod 4 = (TN : Int) := by rw [hTN, hH16, Int.tmod_eq_emod_of_nonneg (by omega)]; omega
  have q3' : (H16 : Int) % 4 = (TN : Int) := by rw [hTN, hH16]; omega
  have q4 : (Q : Int).tdiv 2 = (H2 : Int) := by rw [hH2, Int.tdiv_eq_ediv_of_nonneg (by omega)]; omega
  have q4' : (Q : Int) / 2 = (H2 : Int) := by rw [hH2]; omega
  have q5 : (H2 : Int).tmod 8 = (I : Int) := by rw [hI, hH2, Int.tmod_eq_emod_of_nonneg (by omega)]; omega
  have q5' : (H2 : Int) % 8 = (I : Int) := by rw [hI, hH2]; omega
  have hI8 : I < 8 := by omega
  have hId : I < d.cs.length := by rw [hR.len]; exact hci
  rw [p2] at hgo hck
  obtain ⟨c, hc⟩ : ∃ c, m.at_ I = c := ⟨_, rfl⟩
  obtain ⟨x, hx⟩ : ∃ x, d.at_ I = x := ⟨_, rfl⟩
  rw [hc] at hgo hck
  have rx := hR.one I hci
  rw [hc, hx] at rx
  have cok : c.ok := by rw [← hc]; exact Rcv.at_ok hm I
  have TK := take_ok0 (m := m) hrf (by rw [p2]; exact hci) (by
    rw [p2, hc]
    unfold refusalN
    rcases hgo with e | e
    · rw [if_neg (fun h => h.1 e), if_neg (fun h => h.1 e), if_pos hck.symm]
    · rw [if_neg (by rw [e.1]; simp), if_neg (by rw [e.2]; simp), if_pos hck.symm])
  rw [p2, hc] at TK

  have MD : ∀ W : World, Below w.heap.size w W → Calls Tryz.prog 57 #[.agg x.cells, .string (bs l)] W fun e w' => MadeIs W c l e w' := fun W hW => made_any x c l B W cok hsh (fun hk3 => by
    have hbg2 : c.begun = true ∧ c.turn = f.turn := by
      rcases hgo with e | e
      · exact absurd ((shapeF_parts l).1.symm.trans ((congrArg Fr.kind hf).symm.trans e)) hk3
      · exact e
    obtain ⟨r1, r2, r3, r4⟩ := rx.rt hbg2.1
    refine ⟨⟨r1, r2, r3⟩, ?_⟩
    have o := (hst I hId).1
    rw [hx] at o
    have e : x.sts = [c.st] := by rw [rx.sts, if_pos hbg2.1]
    rw [e] at o
    exact own_same o (fun q hq => by obtain ⟨cur, hcq⟩ := own_ty o hq; exact hW.block q (block_lt hcq)))
  obtain ⟨FP, hFP⟩ : ∃ FP, FP = (madeN c f).flat := ⟨_, rfl⟩
  obtain ⟨NP, hNP⟩ : ∃ NP, NP = (followN c f).st.flat := ⟨_, rfl⟩
  have gFP : GoodFf FP := by rw [hFP]; exact Pk.goodFf _
  have gNP : GoodRs NP := by rw [hNP]; exact St.goodRs _
  have HMD := hide (show ∀ W : World, Below w.heap.size w W → Calls Tryz.prog 57 #[.agg x.cells, .string (bs l)] W fun e w' => e = .returned (.tuple #[.agg FP, .agg NP, .bool true]) ∧ Below W.heap.size W w' by
    intro W hW
    refine (MD W hW).mono ?_
    rintro e w' ⟨rfl, hb⟩
    refine ⟨?_, hb⟩
    rw [← hf, ← hFP, ← hNP, decide_eq_true hck])
  have HFP := hide hFP
  have HNP := hide hNP
  clear MD hFP hNP
  obtain ⟨P, hP⟩ : ∃ P, P = madeN c f := ⟨_, rfl⟩
  obtain ⟨n, hn⟩ : ∃ n, n = (followN c f).st := ⟨_, rfl⟩
  have hPok : P.ok := by rw [hP]; exact madeN_ok cok (readF_ok hrf).1
  have hrel : ∀ v, RelX (followN c f) (Rc.took P TN v n) := fun v => ⟨rfl, fun _ => ⟨by rw [hP]; rfl, by rw [hP]; rfl, by rw [hP]; rfl, by show TN = f.turn; rw [p3]⟩, by rw [hn]; rfl, rfl, rfl, by show TN < 4; omega⟩
  have HREL := hide hrel
  have HPo := hide hPok
  have HFP2 := hide (show FP = P.flat by rw [hP]; exact unhide HFP)
  have HNP2 := hide (show NP = n.flat by rw [hn]; exact unhide HNP)
  rw [← hP] at TK
  clear hrel hPok hP hn
  rw [p1] at hk
  have kI : (K : Int) = 3 := by omega
  have kI2 : ((K : Int) == 3) = true := beq_iff_eq.2 kI
  have kI3 : ((K : Int) != 3) = false := by rw [bne, kI2]; rfl

  obtain ⟨ZP, hZP⟩ : ∃ ZP, ZP = zeroP.cells := ⟨_, rfl⟩
  have zvP : ∀ w, (zeroValue 43).run Tryz.prog w = .ok (.agg ZP) w := by rw [hZP]; intro w; exact Tryz.zeroValue43 w
  have gP : GoodPk ZP := by rw [hZP]; exact Pk.good zeroP
  obtain ⟨ZF, hZF⟩ : ∃ ZF : Array Value, ZF = zeroP.flat := ⟨_, rfl⟩
  have zvF : ∀ w, (zeroValue 120).run Tryz.prog w = .ok (.agg ZF) w := by rw [hZF]; intro w; exact Tryz.zeroValue120 w
  obtain ⟨Z5, hZ5⟩ : ∃ Z5 : Array Value, Z5 = St.zero.flat := ⟨_, rfl⟩
  have zv5 : ∀ w, (zeroValue 128).run Tryz.prog w = .ok (.agg Z5) w := by rw [hZ5]; intro w; exact Tryz.zeroValue128 w
  obtain ⟨Z, hZ⟩ : ∃ Z : Array Value, Z = Rc.blank.cells := ⟨_, rfl⟩
  have zv : ∀ w, (zeroValue 126).run Tryz.prog w = .ok (.agg Z) w := by rw [hZ]; intro w; exact Tryz.zeroValue126 w
  have HZP := hide hZP
  have HSH := hide (show ∀ w : World, Calls Tryz.prog 56 #[.string (bs l), .int .i64 m.cids] w fun e w' => e = .returned (.bool true) ∧ w' = w by
    intro w; have := shaped_any l m.cids w hl hm.c8; rw [hs] at this; exact this)
  have d3 : w.cell? ⟨ge, 3, none⟩ = some (.slice (some ⟨gl, 0, none⟩) m.cids m.cids) := by have := block_cell h.head 3; rw [hR.len] at this; exact this
  have hge := block_lt h.head
  have hgl := block_lt h.rows
  have hb2 : Below w.heap.size w ((w.alloc (.cells ZP 43)).alloc (.cells ZP 43)) := ((Below.refl _ _).alloc (Nat.le_refl _) _).alloc (by simp) _
  have D2 := h.keep hb2
  have r1 := D2.rcIn hId
  have r2 := D2.rcOf hId
  rw [hx] at r2
  obtain ⟨X, hX⟩ : ∃ X, X = x.cells := ⟨_, rfl⟩
  rw [← hX] at r2
  have hslx : ∃ a l c, x.sv = .slice a l c := by rw [← hx]; exact h.sl I hId
  have gs := run_storeRc_new ((w.alloc (.cells ZP 43)).alloc (.cells ZP 43)) X Z 126 (by rw [hX]; exact Rc.good_ hslx) (by rw [hZ]; rfl)
  have eW : ((w.alloc (.cells ZP 43)).alloc (.cells ZP 43)).heap.size = w.heap.size + 1 + 1 := by simp
  rw [eW] at gs
  have I5 := InDt.start h ZP ZF Z5 x
  rw [← hX] at I5
  have z1 : RcIn (((((w.alloc (.cells ZP 43)).alloc (.cells ZP 43)).alloc (.cells X 126)).alloc (.cells ZF 120)).alloc (.cells Z5 128)) (w.heap.size + 1 + 1) 0 := block_rcIn I5.cx
  have z2 : rcOf (((((w.alloc (.cells ZP 43)).alloc (.cells ZP 43)).alloc (.cells X 126)).alloc (.cells ZF 120)).alloc (.cells Z5 128)) (w.heap.size + 1 + 1) 0 = X := (block_rcOf I5.cx).trans hX.symm
  have xh : X[0]? = some (.bool x.has) := by rw [hX]; rfl
  have xt : X[4]? = some (.int .i64 (x.turn : Int)) := by rw [hX]; rfl
  have i0 : (0 : Int) ≤ (I : Int) := by omega
  have i1 : (I : Int) < (m.cids : Int) := by omega
  have wI : IntKind.i64.wrap (I : Int) = (I : Int) := by rw [IntKind.wrap_i64]; omega
  obtain ⟨M, hM⟩ : ∃ M, M = (c.missed + 1) % 256 := ⟨_, rfl⟩
  have hM2 := cok.missed
  have x12 : X[12]? = some (.int .i64 (c.missed : Int)) := by rw [hX, ← rx.missed]; rfl
  have v1 : IntKind.i64.wrap ((c.missed : Int) + 1) = (c.missed : Int) + 1 := by rw [IntKind.wrap_i64]; omega
  have v2 : ((c.missed : Int) + 1).tmod 256 = (M : Int) := by rw [hM, Int.tmod_eq_emod_of_nonneg (by omega)]; omega
  have v2' : ((c.missed : Int) + 1) % 256 = (M : Int) := by rw [hM]; omega
  have hM3 : M < 256 := by omega
  have v3 : IntKind.i64.wrap (M : Int) = (M : Int) := by rw [IntKind.wrap_i64]; omega

  have HzF := hide (show ZF.size = 8 by rw [hZF]; rfl)
  have Hz5 := hide (show Z5.size = 5 by rw [hZ5]; rfl)
  have HI5 := hide I5
  have HI5x := hide (InDt.start h ZP ZF Z5 x)
  have HXX := hide hX
  have HR := hide hR
  have HD := hide h
  have HST := hide hst
  have HHM := hide hm
  have Hc := hide hc
  have Hx := hide hx
  have HdI := hide hId
  have HLEN := hide hR.len
  have HTK := hide TK
  clear hX hR h hst hm hc hx hId TK D2 hb2 hsh hrf p1 p2 p3 p4 hI hK hTN hH16 hH2 hQ hf hs rx hM hZP hZF hZ5 hZ hslx hM2 I5 hgo hck hk
  go_enter Tryz.func32, Tryz.ntmps32
  go_upto_region 25 with (first | (go_at_call 56; refine (unhide HSH _).mono ?_; rintro e w1 ⟨rfl, h1⟩; have h1 := h1.symm; subst h1) | (go_at_call 57; rw [unhide HXX]; refine (unhide HMD _ (unhide HI5x).below).mono ?_; rintro e w7 ⟨rfl, hb7⟩; rw [← unhide HXX]; have HI7 := hide ((unhide HI5x).call hb7); have gzF : FfTo w7 (w.heap.size + 1 + 1 + 1) := ⟨_, _, (unhide HI7).fl, unhide HzF⟩; have gzN : RsIn (w7.setRow (w.heap.size + 1 + 1 + 1) FP) (w.heap.size + 1 + 1 + 1 + 1) := ⟨_, _, ((unhide HI7).putF FP).st, unhide Hz5⟩; clear hb7))
  have HI6 := hide (((unhide HI7).putF FP).putN NP)
  clear r1 r2 gs eW z1 z2 zv zvF zv5 zvP HI5 HI5x gzF gzN q1 q1' q2 q2' q3 q3' q4 q4' q5 q5' xh xt b0 l0 d3 HI7
  rw [unhide HXX]
  generalize (w7.setRow (w.heap.size + 1 + 1 + 1) FP).setRow (w.heap.size + 1 + 1 + 1 + 1) NP = W6 at HI6 ⊢
  generalize w.heap.size + 1 + 1 + 1 + 1 = gn at HI6 ⊢
  generalize w.heap.size + 1 + 1 + 1 = gf at HI6 ⊢
  generalize w.heap.size + 1 + 1 = gx at HI6 ⊢
  have e3 : W6.cell? ⟨ge, 3, none⟩ = some (.slice (some ⟨gl, 0, none⟩) m.cids m.cids) := by have := block_cell (unhide HI6).doc.head 3; rw [unhide HLEN] at this; exact this
  have a0 : W6.cell? ⟨gf, 0, none⟩ = some (.int .u32 (P.src : Int)) := by rw [block_cell (unhide HI6).fl, unhide HFP2]; rfl
  have a1 : W6.cell? ⟨gf, 1, none⟩ = some (.int .u32 (P.dst : Int)) := by rw [block_cell (unhide HI6).fl, unhide HFP2]; rfl
  have a2 : W6.cell? ⟨gf, 2, none⟩ = some (.int .u16 (P.port : Int)) := by rw [block_cell (unhide HI6).fl, unhide HFP2]; rfl
  have n0 : W6.cell? ⟨gn, 0, none⟩ = some (.int .i64 (n.seq : Int)) := by rw [block_cell (unhide HI6).st, unhide HNP2]; rfl
  have n1 : W6.cell? ⟨gn, 1, none⟩ = some (.int .i64 (n.stride : Int)) := by rw [block_cell (unhide HI6).st, unhide HNP2]; rfl
  have n2 : W6.cell? ⟨gn, 2, none⟩ = some (.int .i64 (n.offset : Int)) := by rw [block_cell (unhide HI6).st, unhide HNP2]; rfl
  have n3 : W6.cell? ⟨gn, 3, none⟩ = some (.int .i64 (n.lag : Int)) := by rw [block_cell (unhide HI6).st, unhide HNP2]; rfl
  have n4 : W6.cell? ⟨gn, 4, none⟩ = some (.int .i64 (n.flags : Int)) := by rw [block_cell (unhide HI6).st, unhide HNP2]; rfl
  have e3d : W6.drew.cell? ⟨ge, 3, none⟩ = some (.slice (some ⟨gl, 0, none⟩) m.cids m.cids) := e3
  have a0d : W6.drew.cell? ⟨gf, 0, none⟩ = some (.int .u32 (P.src : Int)) := a0
  have a1d : W6.drew.cell? ⟨gf, 1, none⟩ = some (.int .u32 (P.dst : Int)) := a1
  have a2d : W6.drew.cell? ⟨gf, 2, none⟩ = some (.int .u16 (P.port : Int)) := a2
  have n0d : W6.drew.cell? ⟨gn, 0, none⟩ = some (.int .i64 (n.seq : Int)) := n0
  have n1d : W6.drew.cell? ⟨gn, 1, none⟩ = some (.int .i64 (n.stride : Int)) := n1
  have n2d : W6.drew.cell? ⟨gn, 2, none⟩ = some (.int .i64 (n.offset : Int)) := n2
  have n3d : W6.drew.cell? ⟨gn, 3, none⟩ = some (.int .i64 (n.lag : Int)) := n3
  have n4d : W6.drew.cell? ⟨gn, 4, none⟩ = some (.int .i64 (n.flags : Int)) := n4
  have lge : ge < W6.heap.size := block_lt (unhide HI6).doc.head
  have lgf : gf < W6.heap.size := block_lt (unhide HI6).fl
  have lgn : gn < W6.heap.size := block_lt (unhide HI6).st
  have lgl : gl < W6.heap.size := block_lt (unhide HI6).doc.rows
  have to1 : ∀ O, RcTo (W6.drew.alloc O) gl (I * 13) := fun O => DocAt.rcTo (g := ge) (gl := gl) (d := d) ⟨block_alloc (show W6.drew.heap[ge]? = _ from (unhide HI6).doc.head) O, block_alloc (show W6.drew.heap[gl]? = _ from (unhide HI6).doc.rows) O, (unhide HI6).doc.sl⟩ (unhide HdI)
  have to2 : ∀ O, RcTo (W6.alloc O).drew gl (I * 13) := fun O => to1 O
  go_cut [11] (fun v wx => v = .int .i64 (I : Nat) ∧ ∃ sv, InDz w ge gl (d.set I (Rc.took P TN sv n)) gf FP sv n wx)
  case first =>
    go_region
    all_goals
      have HZ6 := hide (took_put gP.1 ((unhide HI6).call (Below.refl _ _).drew) (unhide HdI) P TN n)
      go_wp2_with fail
      go_meet
      case rel => exact ⟨rfl, _, unhide HZ6⟩
  case rest =>
    obtain ⟨rfl, sv, IZ⟩ := hcut
    clear e3 a0 a1 a2 n0 n1 n2 n3 n4 e3d a0d a1d a2d n0d n1d n2d n3d n4d to1 to2 HI6
    have y1 : FfIn wc gf := ⟨_, _, _, IZ.fl, gFP.1⟩
    have y2 : ffOf wc gf = FP := by unfold ffOf; rw [IZ.fl]
    have HIZ := hide IZ
    obtain ⟨PC, hPC⟩ : ∃ PC, PC = P.cells := ⟨_, rfl⟩
    have gPC : GoodPk PC := by rw [hPC]; exact Pk.good P
    have HPC := hide hPC
    clear IZ hPC
    go_wp2_with (go_at_call 59; rw [unhide HFP2]; refine (packet_any P _ (unhide HPo)).mono ?_; rintro e w9 ⟨rfl, hb9⟩; rw [← unhide HFP2, ← unhide HPC]; have HB9 := hide hb9; have pkr : PkTo w9 w.heap.size := (by obtain ⟨cs, t, h1, h2⟩ := (unhide HIZ).res; exact ⟨cs, t, block_keep h1 hb9, h2⟩); clear hb9)
    have hbz : Below wc.heap.size wc w9 := unhide HB9
    obtain ⟨cs, t, hres, hcs⟩ := pkr
    have onl : Only (· = gl) w (w9.setRow w.heap.size PC) := ((unhide HIZ).only.trans (Only.of_below hbz)).new (Nat.le_refl _) _
    have own9 : (w9.setRow w.heap.size PC).ownsRow w.heap.size 128 5 sv 1 (scells [n]) := by
      refine own_same (unhide HIZ).own (fun q hq => ?_)
      obtain ⟨cur, hcq⟩ := own_ty (unhide HIZ).own hq
      obtain ⟨cs1, t1, hr1, _⟩ := (unhide HIZ).res
      have hne : q ≠ w.heap.size := by
        intro e
        have h9 := hres
        rw [← e, hbz.block q (block_lt hcq), hcq] at h9
        simp at h9
        have := congrArg Array.size h9.1
        rcases (unhide HIZ).own.2 with ⟨e1, _⟩ | ⟨g2, cap, cur2, e1, _, e2, e3, _, e4, _⟩
        · rw [e1] at hq; simp [Value.ownBlock] at hq
        · rw [e1] at hq
          simp [Value.ownBlock] at hq
          subst hq
          rw [e2] at hcq
          simp at hcq
          rw [← hcq] at this
          omega
      rw [setRow_other _ _ _ _ hne]
      exact hbz.block q (block_lt hcq)
    have fin : DocTook m l w ge gl B (.returned (.tuple #[.agg PC, .string (bs []), .int .i64 0])) (w9.setRow w.heap.size PC) := by
      obtain ⟨t1, t2, t3, t4⟩ := unhide HTK
      refine ⟨by rw [t1, t2, t3, unhide HPC]; rfl, _, ?_, ?_, ?_, took_sts (p := P) (t := TN) (unhide HST) (unhide HD) (unhide HdI) onl hB own9, onl⟩
      · rw [t4]
        exact (unhide HR).put (unhide HHM) hci (unhide HREL sv)
      · exact hdc
      · have D9 := (unhide HIZ).doc.keep hbz
        exact ⟨by rw [setRow_other _ _ _ _ (by omega)]; exact D9.head, by rw [setRow_other _ _ _ _ (by omega)]; exact D9.rows, D9.sl⟩
    exact ret_whole3 (cs := PC) Tryz.results32 rfl (setRow_heap _ _ _ _ _ _ hres) Tryz.underlying43 rfl (by rw [gPC.1]; exact infoPk) rfl fin

set_option maxRecDepth 100000 in
set_option maxHeartbeats 8000000 in
theorem dtake_0n (m : Rcv) (d : Doc) (l : List UInt8) (ge gl B : Nat) (w : World) (hm : m.ok) (hR : RelR m d) (hdc : d.cids = m.cids) (h : DocAt w ge gl d) (hst : StsIn w B d) (hB : B ≤ w.heap.size) (hl : l.length ≤ 9223372036854775807) (hs : shapedB l m.cids = true) (hk : (shapeF l).kind ≠ 3) (hgo : (shapeF l).kind = 3 ∨ ((m.at_ (shapeF l).cid).begun = true ∧ (m.at_ (shapeF l).cid).turn = (shapeF l).turn)) (hck : chk (widthN (shapeF l).kind) (madeN (m.at_ (shapeF l).cid) (shapeF l)) = (shapeF l).chk) :
    Calls Tryz.prog 32 #[.pointer (some ⟨ge, 0, none⟩), .string (bs l)] w fun e w' => DocTook m l w ge gl B e w' := by
  obtain ⟨hsh, hci⟩ := shaped_yes hs
  have hrf := readF_shape hsh
  obtain ⟨p1, p2, p3, p4⟩ := shapeF_parts l
  have s0 : 0 < (bs l).size := by rw [bs_size]; have := hsh.some_; omega
  have b0 := byte_at l 0 (by have := hsh.some_; omega) s0
  have l0 := byteN_lt l 0
  obtain ⟨I, hI⟩ : ∃ I, I = byteN l 0 / 2 % 8 := ⟨_, rfl⟩
  obtain ⟨K, hK⟩ : ∃ K, K = byteN l 0 / 64 := ⟨_, rfl⟩
  obtain ⟨TN, hTN⟩ : ∃ T, T = byteN l 0 / 16 % 4 := ⟨_, rfl⟩
  obtain ⟨H16, hH16⟩ : ∃ H, H = byteN l 0 / 16 := ⟨_, rfl⟩
  obtain ⟨H2, hH2⟩ : ∃ H, H = byteN l 0 / 2 := ⟨_, rfl⟩
  obtain ⟨Q, hQ⟩ : ∃ Q, Q = byteN l 0 := ⟨_, rfl⟩
  obtain ⟨f, hf⟩ : ∃ f, f = shapeF l := ⟨_, rfl⟩
  rw [← hf] at p1 p2 p3 hrf hk hgo hck
  rw [← hQ] at b0 l0 hI hK hTN hH16 hH2 p1 p2 p3 hci
  rw [← hI] at p2 hci
  rw [← hK] at p1
  rw [← hTN] at p3
  have K4 : K ≤ 3 := by omega
  have q1 : (Q : Int).tdiv 64 = (K : Int) := by rw [hK, Int.tdiv_eq_ediv_of_nonneg (by omega)]; omega
  have q1' : (Q : Int) / 64 = (K : Int) := by rw [hK]; omega
  have q2 : (Q : Int).tdiv 16 = (H16 : Int) := by rw [hH16, Int.tdiv_eq_ediv_of_nonneg (by omega)]; omega
  have q2' : (Q : Int) / 16 = (H16 : Int) := by rw [hH16]; omega
  have q3 : (H16 : Int).tmod 4 = (TN : Int) := by rw [hTN, hH16, Int.tmod_eq_emod_of_nonneg (by omega)]; omega
  have q3' : (H16 : Int) % 4 = (TN : Int) := by rw [hTN, hH16]; omega
  have q4 : (Q : Int).tdiv 2 = (H2 : Int) := by rw [hH2, Int.tdiv_eq_ediv_of_nonneg (by omega)]; omega
  have q4' : (Q : Int) / 2 = (H2 : Int) := by rw [hH2]; omega
  have q5 : (H2 : Int).tmod 8 = (I : Int) := by rw [hI, hH2, Int.tmod_eq_emod_of_nonneg (by omega)]; omega
  have q5' : (H2 : Int) % 8 = (I : Int) := by rw [hI, hH2]; omega
  have hI8 : I < 8 := by omega
  have hId : I < d.cs.length := by rw [hR.len]; exact hci
  rw [p2] at hgo hck
  obtain ⟨c, hc⟩ : ∃ c, m.at_ I = c := ⟨_, rfl⟩
  obtain ⟨x, hx⟩ : ∃ x, d.at_ I = x := ⟨_, rfl⟩
  rw [hc] at hgo hck
  have rx := hR.one I hci
  rw [hc, hx] at rx
  have cok : c.ok := by rw [← hc]; exact Rcv.at_ok hm I
  have TK := take_ok0 (m := m) hrf (by rw [p2]; exact hci) (by
    rw [p2, hc]
    unfold refusalN
    rcases hgo with e | e
    · rw [if_neg (fun h => h.1 e), if_neg (fun h => h.1 e), if_pos hck.symm]
    · rw [if_neg (by rw [e.1]; simp), if_neg (by rw [e.2]; simp), if_pos hck.symm])
  rw [p2, hc] at TK

  have MD : ∀ W : World, Below w.heap.size w W → Calls Tryz.prog 57 #[.agg x.cells, .string (bs l)] W fun e w' => MadeIs W c l e w' := fun W hW => made_any x c l B W cok hsh (fun hk3 => by
    have hbg2 : c.begun = true ∧ c.turn = f.turn := by
      rcases hgo with e | e
      · exact absurd ((shapeF_parts l).1.symm.trans ((congrArg Fr.kind hf).symm.trans e)) hk3
      · exact e
    obtain ⟨r1, r2, r3, r4⟩ := rx.rt hbg2.1
    refine ⟨⟨r1, r2, r3⟩, ?_⟩
    have o := (hst I hId).1
    rw [hx] at o
    have e : x.sts = [c.st] := by rw [rx.sts, if_pos hbg2.1]
    rw [e] at o
    exact own_same o (fun q hq => by obtain ⟨cur, hcq⟩ := own_ty o hq; exact hW.block q (block_lt hcq)))
  obtain ⟨FP, hFP⟩ : ∃ FP, FP = (madeN c f).flat := ⟨_, rfl⟩
  obtain ⟨NP, hNP⟩ : ∃ NP, NP = (followN c f).st.flat := ⟨_, rfl⟩
  have gFP : GoodFf FP := by rw [hFP]; exact Pk.goodFf _
  have gNP : GoodRs NP := by rw [hNP]; exact St.goodRs _
  have HMD := hide (show ∀ W : World, Below w.heap.size w W → Calls Tryz.prog 57 #[.agg x.cells, .string (bs l)] W fun e w' => e = .returned (.tuple #[.agg FP, .agg NP, .bool true]) ∧ Below W.heap.size W w' by
    intro W hW
    refine (MD W hW).mono ?_
    rintro e w' ⟨rfl, hb⟩
    refine ⟨?_, hb⟩
    rw [← hf, ← hFP, ← hNP, decide_eq_true hck])
  have HFP := hide hFP
  have HNP := hide hNP
  clear MD hFP hNP
  obtain ⟨P, hP⟩ : ∃ P, P = madeN c f := ⟨_, rfl⟩
  obtain ⟨n, hn⟩ : ∃ n, n = (followN c f).st := ⟨_, rfl⟩
  have hPok : P.ok := by rw [hP]; exact madeN_ok cok (readF_ok hrf).1
  have hrel : ∀ v, RelX (followN c f) (Rc.took P TN v n) := fun v => ⟨rfl, fun _ => ⟨by rw [hP]; rfl, by rw [hP]; rfl, by rw [hP]; rfl, by show TN = f.turn; rw [p3]⟩, by rw [hn]; rfl, rfl, rfl, by show TN < 4; omega⟩
  have HREL := hide hrel
  have HPo := hide hPok
  have HFP2 := hide (show FP = P.flat by rw [hP]; exact unhide HFP)
  have HNP2 := hide (show NP = n.flat by rw [hn]; exact unhide HNP)
  rw [← hP] at TK
  clear hrel hPok hP hn
  have hbg : c.begun = true ∧ c.turn = f.turn := by
    rcases hgo with e | e
    · exact absurd e hk
    · exact e
  rw [p1] at hk
  have kI : ¬ ((K : Int) = 3) := by omega
  have kI2 : ((K : Int) == 3) = false := beq_eq_false_iff_ne.2 kI
  have kI3 : ((K : Int) != 3) = true := bne_iff_ne.2 kI
  have tI0 : x.turn = TN := by rw [(rx.rt hbg.1).2.2.2, hbg.2, p3]
  have tI : (x.turn : Int) = (TN : Int) := by omega
  have tI3 : ((x.turn : Int) == (TN : Int)) = true := beq_iff_eq.2 tI
  have tI4 : ((x.turn : Int) != (TN : Int)) = false := by rw [bne, tI3]; rfl

  obtain ⟨ZP, hZP⟩ : ∃ ZP, ZP = zeroP.cells := ⟨_, rfl⟩
  have zvP : ∀ w, (zeroValue 43).run Tryz.prog w = .ok (.agg ZP) w := by rw [hZP]; intro w; exact Tryz.zeroValue43 w
  have gP : GoodPk ZP := by rw [hZP]; exact Pk.good zeroP
  obtain ⟨ZF, hZF⟩ : ∃ ZF : Array Value, ZF = zeroP.flat := ⟨_, rfl⟩
  have zvF : ∀ w, (zeroValue 120).run Tryz.prog w = .ok (.agg ZF) w := by rw [hZF]; intro w; exact Tryz.zeroValue120 w
  obtain ⟨Z5, hZ5⟩ : ∃ Z5 : Array Value, Z5 = St.zero.flat := ⟨_, rfl⟩
  have zv5 : ∀ w, (zeroValue 128).run Tryz.prog w = .ok (.agg Z5) w := by rw [hZ5]; intro w; exact Tryz.zeroValue128 w
  obtain ⟨Z, hZ⟩ : ∃ Z : Array Value, Z = Rc.blank.cells := ⟨_, rfl⟩
  have zv : ∀ w, (zeroValue 126).run Tryz.prog w = .ok (.agg Z) w := by rw [hZ]; intro w; exact Tryz.zeroValue126 w
  have HZP := hide hZP
  have HSH := hide (show ∀ w : World, Calls Tryz.prog 56 #[.string (bs l), .int .i64 m.cids] w fun e w' => e = .returned (.bool true) ∧ w' = w by
    intro w; have := shaped_any l m.cids w hl hm.c8; rw [hs] at this; exact this)
  have d3 : w.cell? ⟨ge, 3, none⟩ = some (.slice (some ⟨gl, 0, none⟩) m.cids m.cids) := by have := block_cell h.head 3; rw [hR.len] at this; exact this
  have hge := block_lt h.head
  have hgl := block_lt h.rows
  have hb2 : Below w.heap.size w ((w.alloc (.cells ZP 43)).alloc (.cells ZP 43)) := ((Below.refl _ _).alloc (Nat.le_refl _) _).alloc (by simp) _
  have D2 := h.keep hb2
  have r1 := D2.rcIn hId
  have r2 := D2.rcOf hId
  rw [hx] at r2
  obtain ⟨X, hX⟩ : ∃ X, X = x.cells := ⟨_, rfl⟩
  rw [← hX] at r2
  have hslx : ∃ a l c, x.sv = .slice a l c := by rw [← hx]; exact h.sl I hId
  have gs := run_storeRc_new ((w.alloc (.cells ZP 43)).alloc (.cells ZP 43)) X Z 126 (by rw [hX]; exact Rc.good_ hslx) (by rw [hZ]; rfl)
  have eW : ((w.alloc (.cells ZP 43)).alloc (.cells ZP 43)).heap.size = w.heap.size + 1 + 1 := by simp
  rw [eW] at gs
  have I5 := InDt.start h ZP ZF Z5 x
  rw [← hX] at I5
  have z1 : RcIn (((((w.alloc (.cells ZP 43)).alloc (.cells ZP 43)).alloc (.cells X 126)).alloc (.cells ZF 120)).alloc (.cells Z5 128)) (w.heap.size + 1 + 1) 0 := block_rcIn I5.cx
  have z2 : rcOf (((((w.alloc (.cells ZP 43)).alloc (.cells ZP 43)).alloc (.cells X 126)).alloc (.cells ZF 120)).alloc (.cells Z5 128)) (w.heap.size + 1 + 1) 0 = X := (block_rcOf I5.cx).trans hX.symm
  have xh : X[0]? = some (.bool true) := by rw [hX]; show some (Value.bool x.has) = _; rw [rx.has, hbg.1]
  have xt : X[4]? = some (.int .i64 (x.turn : Int)) := by rw [hX]; rfl
  have i0 : (0 : Int) ≤ (I : Int) := by omega
  have i1 : (I : Int) < (m.cids : Int) := by omega
  have wI : IntKind.i64.wrap (I : Int) = (I : Int) := by rw [IntKind.wrap_i64]; omega
  obtain ⟨M, hM⟩ : ∃ M, M = (c.missed + 1) % 256 := ⟨_, rfl⟩
  have hM2 := cok.missed
  have x12 : X[12]? = some (.int .i64 (c.missed : Int)) := by rw [hX, ← rx.missed]; rfl
  have v1 : IntKind.i64.wrap ((c.missed : Int) + 1) = (c.missed : Int) + 1 := by rw [IntKind.wrap_i64]; omega
  have v2 : ((c.missed : Int) + 1).tmod 256 = (M : Int) := by rw [hM, Int.tmod_eq_emod_of_nonneg (by omega)]; omega
  have v2' : ((c.missed : Int) + 1) % 256 = (M : Int) := by rw [hM]; omega
  have hM3 : M < 256 := by omega
  have v3 : IntKind.i64.wrap (M : Int) = (M : Int) := by rw [IntKind.wrap_i64]; omega

  have HzF := hide (show ZF.size = 8 by rw [hZF]; rfl)
  have Hz5 := hide (show Z5.size = 5 by rw [hZ5]; rfl)
  have HI5 := hide I5
  have HI5x := hide (InDt.start h ZP ZF Z5 x)
  have HXX := hide hX
  have HR := hide hR
  have HD := hide h
  have HST := hide hst
  have HHM := hide hm
  have Hc := hide hc
  have Hx := hide hx
  have HdI := hide hId
  have HLEN := hide hR.len
  have HTK := hide TK
  clear hX hR h hst hm hc hx hId TK D2 hb2 hsh hrf p1 p2 p3 p4 hI hK hTN hH16 hH2 hQ hf hs rx hM hZP hZF hZ5 hZ hslx hM2 I5 hbg hgo hck hk tI0
  go_enter Tryz.func32, Tryz.ntmps32
  go_upto_region 25 with (first | (go_at_call 56; refine (unhide HSH _).mono ?_; rintro e w1 ⟨rfl, h1⟩; have h1 := h1.symm; subst h1) | (go_at_call 57; rw [unhide HXX]; refine (unhide HMD _ (unhide HI5x).below).mono ?_; rintro e w7 ⟨rfl, hb7⟩; rw [← unhide HXX]; have HI7 := hide ((unhide HI5x).call hb7); have gzF : FfTo w7 (w.heap.size + 1 + 1 + 1) := ⟨_, _, (unhide HI7).fl, unhide HzF⟩; have gzN : RsIn (w7.setRow (w.heap.size + 1 + 1 + 1) FP) (w.heap.size + 1 + 1 + 1 + 1) := ⟨_, _, ((unhide HI7).putF FP).st, unhide Hz5⟩; clear hb7))
  have HI6 := hide (((unhide HI7).putF FP).putN NP)
  clear r1 r2 gs eW z1 z2 zv zvF zv5 zvP HI5 HI5x gzF gzN q1 q1' q2 q2' q3 q3' q4 q4' q5 q5' xh xt b0 l0 d3 HI7
  rw [unhide HXX]
  generalize (w7.setRow (w.heap.size + 1 + 1 + 1) FP).setRow (w.heap.size + 1 + 1 + 1 + 1) NP = W6 at HI6 ⊢
  generalize w.heap.size + 1 + 1 + 1 + 1 = gn at HI6 ⊢
  generalize w.heap.size + 1 + 1 + 1 = gf at HI6 ⊢
  generalize w.heap.size + 1 + 1 = gx at HI6 ⊢
  have e3 : W6.cell? ⟨ge, 3, none⟩ = some (.slice (some ⟨gl, 0, none⟩) m.cids m.cids) := by have := block_cell (unhide HI6).doc.head 3; rw [unhide HLEN] at this; exact this
  have a0 : W6.cell? ⟨gf, 0, none⟩ = some (.int .u32 (P.src : Int)) := by rw [block_cell (unhide HI6).fl, unhide HFP2]; rfl
  have a1 : W6.cell? ⟨gf, 1, none⟩ = some (.int .u32 (P.dst : Int)) := by rw [block_cell (unhide HI6).fl, unhide HFP2]; rfl
  have a2 : W6.cell? ⟨gf, 2, none⟩ = some (.int .u16 (P.port : Int)) := by rw [block_cell (unhide HI6).fl, unhide HFP2]; rfl
  have n0 : W6.cell? ⟨gn, 0, none⟩ = some (.int .i64 (n.seq : Int)) := by rw [block_cell (unhide HI6).st, unhide HNP2]; rfl
  have n1 : W6.cell? ⟨gn, 1, none⟩ = some (.int .i64 (n.stride : Int)) := by rw [block_cell (unhide HI6).st, unhide HNP2]; rfl
  have n2 : W6.cell? ⟨gn, 2, none⟩ = some (.int .i64 (n.offset : Int)) := by rw [block_cell (unhide HI6).st, unhide HNP2]; rfl
  have n3 : W6.cell? ⟨gn, 3, none⟩ = some (.int .i64 (n.lag : Int)) := by rw [block_cell (unhide HI6).st, unhide HNP2]; rfl
  have n4 : W6.cell? ⟨gn, 4, none⟩ = some (.int .i64 (n.flags : Int)) := by rw [block_cell (unhide HI6).st, unhide HNP2]; rfl
  have e3d : W6.drew.cell? ⟨ge, 3, none⟩ = some (.slice (some ⟨gl, 0, none⟩) m.cids m.cids) := e3
  have a0d : W6.drew.cell? ⟨gf, 0, none⟩ = some (.int .u32 (P.src : Int)) := a0
  have a1d : W6.drew.cell? ⟨gf, 1, none⟩ = some (.int .u32 (P.dst : Int)) := a1
  have a2d : W6.drew.cell? ⟨gf, 2, none⟩ = some (.int .u16 (P.port : Int)) := a2
  have n0d : W6.drew.cell? ⟨gn, 0, none⟩ = some (.int .i64 (n.seq : Int)) := n0
  have n1d : W6.drew.cell? ⟨gn, 1, none⟩ = some (.int .i64 (n.stride : Int)) := n1
  have n2d : W6.drew.cell? ⟨gn, 2, none⟩ = some (.int .i64 (n.offset : Int)) := n2
  have n3d : W6.drew.cell? ⟨gn, 3, none⟩ = some (.int .i64 (n.lag : Int)) := n3
  have n4d : W6.drew.cell? ⟨gn, 4, none⟩ = some (.int .i64 (n.flags : Int)) := n4
  have lge : ge < W6.heap.size := block_lt (unhide HI6).doc.head
  have lgf : gf < W6.heap.size := block_lt (unhide HI6).fl
  have lgn : gn < W6.heap.size := block_lt (unhide HI6).st
  have lgl : gl < W6.heap.size := block_lt (unhide HI6).doc.rows
  have to1 : ∀ O, RcTo (W6.drew.alloc O) gl (I * 13) := fun O => DocAt.rcTo (g := ge) (gl := gl) (d := d) ⟨block_alloc (show W6.drew.heap[ge]? = _ from (unhide HI6).doc.head) O, block_alloc (show W6.drew.heap[gl]? = _ from (unhide HI6).doc.rows) O, (unhide HI6).doc.sl⟩ (unhide HdI)
  have to2 : ∀ O, RcTo (W6.alloc O).drew gl (I * 13) := fun O => to1 O
  go_cut [11] (fun v wx => v = .int .i64 (I : Nat) ∧ ∃ sv, InDz w ge gl (d.set I (Rc.took P TN sv n)) gf FP sv n wx)
  case first =>
    go_region
    all_goals
      have HZ6 := hide (took_put gP.1 ((unhide HI6).call (Below.refl _ _).drew) (unhide HdI) P TN n)
      go_wp2_with fail
      go_meet
      case rel => exact ⟨rfl, _, unhide HZ6⟩
  case rest =>
    obtain ⟨rfl, sv, IZ⟩ := hcut
    clear e3 a0 a1 a2 n0 n1 n2 n3 n4 e3d a0d a1d a2d n0d n1d n2d n3d n4d to1 to2 HI6
    have y1 : FfIn wc gf := ⟨_, _, _, IZ.fl, gFP.1⟩
    have y2 : ffOf wc gf = FP := by unfold ffOf; rw [IZ.fl]
    have HIZ := hide IZ
    obtain ⟨PC, hPC⟩ : ∃ PC, PC = P.cells := ⟨_, rfl⟩
    have gPC : GoodPk PC := by rw [hPC]; exact Pk.good P
    have HPC := hide hPC
    clear IZ hPC
    go_wp2_with (go_at_call 59; rw [unhide HFP2]; refine (packet_any P _ (unhide HPo)).mono ?_; rintro e w9 ⟨rfl, hb9⟩; rw [← unhide HFP2, ← unhide HPC]; have HB9 := hide hb9; have pkr : PkTo w9 w.heap.size := (by obtain ⟨cs, t, h1, h2⟩ := (unhide HIZ).res; exact ⟨cs, t, block_keep h1 hb9, h2⟩); clear hb9)
    have hbz : Below wc.heap.size wc w9 := unhide HB9
    obtain ⟨cs, t, hres, hcs⟩ := pkr
    have onl : Only (· = gl) w (w9.setRow w.heap.size PC) := ((unhide HIZ).only.trans (Only.of_below hbz)).new (Nat.le_refl _) _
    have own9 : (w9.setRow w.heap.size PC).ownsRow w.heap.size 128 5 sv 1 (scells [n]) := by
      refine own_same (unhide HIZ).own (fun q hq => ?_)
      obtain ⟨cur, hcq⟩ := own_ty (unhide HIZ).own hq
      obtain ⟨cs1, t1, hr1, _⟩ := (unhide HIZ).res
      have hne : q ≠ w.heap.size := by
        intro e
        have h9 := hres
        rw [← e, hbz.block q (block_lt hcq), hcq] at h9
        simp at h9
        have := congrArg Array.size h9.1
        rcases (unhide HIZ).own.2 with ⟨e1, _⟩ | ⟨g2, cap, cur2, e1, _, e2, e3, _, e4, _⟩
        · rw [e1] at hq; simp [Value.ownBlock] at hq
        · rw [e1] at hq
          simp [Value.ownBlock] at hq
          subst hq
          rw [e2] at hcq
          simp at hcq
          rw [← hcq] at this
          omega
      rw [setRow_other _ _ _ _ hne]
      exact hbz.block q (block_lt hcq)
    have fin : DocTook m l w ge gl B (.returned (.tuple #[.agg PC, .string (bs []), .int .i64 0])) (w9.setRow w.heap.size PC) := by
      obtain ⟨t1, t2, t3, t4⟩ := unhide HTK
      refine ⟨by rw [t1, t2, t3, unhide HPC]; rfl, _, ?_, ?_, ?_, took_sts (p := P) (t := TN) (unhide HST) (unhide HD) (unhide HdI) onl hB own9, onl⟩
      · rw [t4]
        exact (unhide HR).put (unhide HHM) hci (unhide HREL sv)
      · exact hdc
      · have D9 := (unhide HIZ).doc.keep hbz
        exact ⟨by rw [setRow_other _ _ _ _ (by omega)]; exact D9.head, by rw [setRow_other _ _ _ _ (by omega)]; exact D9.rows, D9.sl⟩
    exact ret_whole3 (cs := PC) Tryz.results32 rfl (setRow_heap _ _ _ _ _ _ hres) Tryz.underlying43 rfl (by rw [gPC.1]; exact infoPk) rfl fin

theorem dtake_any (m : Rcv) (d : Doc) (l : List UInt8) (ge gl B : Nat) (w : World) (hm : m.ok) (hR : RelR m d) (hdc : d.cids = m.cids) (h : DocAt w ge gl d) (hst : StsIn w B d) (hB : B ≤ w.heap.size) (hl : l.length ≤ 9223372036854775807) :
    Calls Tryz.prog 32 #[.pointer (some ⟨ge, 0, none⟩), .string (bs l)] w fun e w' => DocTook m l w ge gl B e w' := by
  cases hs : shapedB l m.cids with
  | false => exact dtake_bad m d l ge gl B w hm hR hdc h hst hl hs
  | true =>
    by_cases hgo : (shapeF l).kind = 3 ∨ ((m.at_ (shapeF l).cid).begun = true ∧ (m.at_ (shapeF l).cid).turn = (shapeF l).turn)
    · by_cases hck : chk (widthN (shapeF l).kind) (madeN (m.at_ (shapeF l).cid) (shapeF l)) = (shapeF l).chk
      · by_cases hk : (shapeF l).kind = 3
        · exact dtake_0w m d l ge gl B w hm hR hdc h hst hB hl hs hk hgo hck
        · exact dtake_0n m d l ge gl B w hm hR hdc h hst hB hl hs hk hgo hck
      · by_cases hk : (shapeF l).kind = 3
        · exact dtake_10w m d l ge gl B w hm hR hdc h hst hB hl hs hk hgo hck
        · exact dtake_10n m d l ge gl B w hm hR hdc h hst hB hl hs hk hgo hck
    · have hk : (shapeF l).kind ≠ 3 := fun e => hgo (Or.inl e)
      cases hbg : (m.at_ (shapeF l).cid).begun with
      | false => exact dtake_8 m d l ge gl B w hm hR hdc h hst hB hl hs hk hbg
      | true => exact dtake_9 m d l ge gl B w hm hR hdc h hst hB hl hs hk hbg (fun e => hgo (Or.inr ⟨hbg, e⟩))

end Go.Proofs.YtgpojbgjfibblabGreat.texts
