/-
  The walk of the document's Take. The walks of the program's receiver: Flows, and New of no configuration; a world's receiver in plain numbers. A receiver's two ends and the world that holds them (package gistlaw), in memory and in plain numbers. The walks of a world's take and passed, of pick and spoilt, and of told on the receiver's side (package gistlaw). The walks of told on the receiver's side, of step's other kinds, of ends and of begun (package gistlaw). Two pairs of ends and the book, in memory (package gistlaw): what each step keeps. The walk of a script on two pairs of ends (package gistlaw): plays, Takes. The walk of the statement Takes (package gistlaw).
  Conditions stand in each theorem.
-/
import Derived.Test.YtgpojbgjfibblaaGreatJoinTakeAny
import Derived.Test.YtgpojbgjfibblaaGreatPart37
import Derived.Deep.DeepCutAuto
import Derived.Test.YtgpojbgjfibblaaGreatNoConf
import Derived.Test.YtgpojbgjfibblaaGreatBookH
import Derived.Test.YtgpojbgjfibblaaGreatSendsWalk
namespace Go.Proofs.YtgpojbgjfibblaaGreat.texts
open Go.RowKit
set_option linter.unusedVariables false
attribute [local go_sem ↓] Go.wp_at_zero Go.wp_at_succ
attribute [local go_sem ↓] loadRc_eq storeRc_eq storeRs_eq storeFf_eq loadFf_eq storePk_eq
attribute [local go_sem] run_loadRc run_storeRc run_storeRs run_storeFf run_loadFf run_storePk
attribute [local go_sem] bs_size

def loadPk (v : Value) : Sem Value := Instr.loadAt 41 v
theorem loadPk_eq (v : Value) : Instr.loadAt 41 v = loadPk v := rfl
theorem run_loadPk (w : World) (g : Nat) (h : FfIn w g) : (loadPk (.pointer (some ⟨g, 0, none⟩))).run Tryz.prog w = .ok (.agg (ffOf w g)) w := by
  obtain ⟨c, t, fr, h1, h2⟩ := h
  have := run_loadAt_mid (P := Tryz.prog) w g 0 41 _ _ (World.rangeAt_of_block h1 0 8) Tryz.underlying41 rfl (by rw [infoPk]; simp; omega)
  have e : c.extract 0 (0 + 8) = c := by rw [show 0 + 8 = c.size by omega]; exact Array.extract_size
  rw [e] at this
  simpa [loadPk, ffOf, h1] using this
attribute [local go_sem ↓] loadPk_eq
attribute [local go_sem] run_loadPk

/-- a receiver's context of the program's and one of the document's -/
structure RelX (c : Rx) (x : Rc) : Prop where
  has : x.has = c.begun
  rt : c.begun = true → x.src = c.src ∧ x.dst = c.dst ∧ x.port = c.port ∧ x.turn = c.turn
  sts : x.sts = if c.begun = true then [c.st] else []
  missed : x.missed = c.missed
  sent : x.sent = 0
  tn : x.turn < 4
structure RelR (m : Rcv) (d : Doc) : Prop where
  len : d.cs.length = m.cids
  one : ∀ i, i < m.cids → RelX (m.at_ i) (d.at_ i)
theorem RelR.put {m : Rcv} {d : Doc} (hm : m.ok) (h : RelR m d) {i : Nat} (hi : i < m.cids) {c : Rx} {x : Rc} (hr : RelX c x) : RelR (m.set i c) (d.set i x) := by
  have hl := h.len
  have h8 := hm.c8
  have ml := hm.len
  refine ⟨by simp [Doc.set, hl]; rfl, fun j hj => ?_⟩
  rw [Rcv.set_at m i j c (by omega), Doc.set_at d i j x (by omega)]
  split
  · exact hr
  · exact h.one j hj
theorem made_any (x : Rc) (c : Rx) (l : List UInt8) (B0 : Nat) (w : World) (hc : c.ok) (h : Shape l) (hr : byteN l 0 / 64 ≠ 3 → (x.src = c.src ∧ x.dst = c.dst ∧ x.port = c.port) ∧ w.ownsRow B0 111 5 x.sv 1 (scells [c.st])) :
    Calls Tryz.prog 58 #[.agg x.cells, .string (bs l)] w fun e w' => MadeIs w c l e w' := by
  have hb := byteN_lt l 0
  have hm := h.most
  have ha : aheadN (byteN l 0 / 64) ≤ 23 := by unfold aheadN; split; omega; split; omega; split <;> omega
  have hl : l.length ≤ 1000 := by omega
  by_cases h3 : byteN l 0 / 64 = 3
  · exact made_3 x c l w hc h h3 hl
  · obtain ⟨r1, r2⟩ := hr h3
    by_cases h2 : byteN l 0 / 64 = 2
    · exact made_2 x c l w hc r1 h h2 hl
    · by_cases h1 : byteN l 0 / 64 = 1
      · exact made_1 x c l B0 w hc r1 r2 h h1 hl
      · exact made_0 x c l B0 w hc r1 r2 h (by omega) hl

/-- the End, the context at work, and what a frame seems to tell -/
structure InDt (w : World) (ge gl : Nat) (d : Doc) (ZP : Array Value) (gx : Nat) (x : Rc) (gf : Nat) (F : Array Value) (gn : Nat) (N : Array Value) (w1 : World) : Prop where
  doc : DocAt w1 ge gl d
  res : w1.heap[w.heap.size]? = some (.cells ZP 41 (0, 0))
  non : w1.heap[w.heap.size + 1]? = some (.cells ZP 41 (0, 0))
  cx : w1.heap[gx]? = some (.cells x.cells 109 (0, 0))
  fl : w1.heap[gf]? = some (.cells F 125 (0, 0))
  st : w1.heap[gn]? = some (.cells N 111 (0, 0))
  gb : ge < w.heap.size
  lb : gl < w.heap.size
  ux : w.heap.size + 1 < gx
  uf : w.heap.size + 1 < gf
  un : w.heap.size + 1 < gn
  below : Below w.heap.size w w1
theorem InDt.call {w w1 w2 : World} {ge gl gx gf gn : Nat} {d : Doc} {ZP F N : Array Value} {x : Rc} (h : InDt w ge gl d ZP gx x gf F gn N w1) (hb : Below w1.heap.size w1 w2) : InDt w ge gl d ZP gx x gf F gn N w2 :=
  ⟨h.doc.keep hb, block_keep h.res hb, block_keep h.non hb, block_keep h.cx hb, block_keep h.fl hb, block_keep h.st hb, h.gb, h.lb, h.ux, h.uf, h.un, keep_below h.below hb (Nat.le_of_lt (block_lt h.res))⟩
theorem InDt.putF {w w1 : World} {ge gl gx gf gn : Nat} {d : Doc} {ZP F N : Array Value} {x : Rc} (h : InDt w ge gl d ZP gx x gf F gn N w1) (C : Array Value) : InDt w ge gl d ZP gx x gf C gn N (w1.setRow gf C) := by
  have h1 := h.gb
  have h2 := h.lb
  have h3 := h.uf
  exact ⟨⟨by rw [setRow_other _ _ _ _ (by omega)]; exact h.doc.head, by rw [setRow_other _ _ _ _ (by omega)]; exact h.doc.rows, h.doc.sl⟩, by rw [setRow_other _ _ _ _ (by omega)]; exact h.res, by rw [setRow_other _ _ _ _ (by omega)]; exact h.non, by rw [setRow_other _ _ _ _ (apart_ty h.cx h.fl (by decide))]; exact h.cx, setRow_heap _ _ _ _ _ _ h.fl, by rw [setRow_other _ _ _ _ (apart_ty h.st h.fl (by decide))]; exact h.st, h1, h2, h.ux, h3, h.un, below_setRow h.below (by omega) _⟩
theorem InDt.putN {w w1 : World} {ge gl gx gf gn : Nat} {d : Doc} {ZP F N : Array Value} {x : Rc} (h : InDt w ge gl d ZP gx x gf F gn N w1) (C : Array Value) : InDt w ge gl d ZP gx x gf F gn C (w1.setRow gn C) := by
  have h1 := h.gb
  have h2 := h.lb
  have h3 := h.un
  exact ⟨⟨by rw [setRow_other _ _ _ _ (by omega)]; exact h.doc.head, by rw [setRow_other _ _ _ _ (by omega)]; exact h.doc.rows, h.doc.sl⟩, by rw [setRow_other _ _ _ _ (by omega)]; exact h.res, by rw [setRow_other _ _ _ _ (by omega)]; exact h.non, by rw [setRow_other _ _ _ _ (apart_ty h.cx h.st (by decide))]; exact h.cx, by rw [setRow_other _ _ _ _ (apart_ty h.fl h.st (by decide))]; exact h.fl, setRow_heap _ _ _ _ _ _ h.st, h1, h2, h.ux, h.uf, h3, below_setRow h.below (by omega) _⟩

/-- what Take leaves -/
def DocTook (m : Rcv) (l : List UInt8) (w : World) (ge gl B : Nat) (e : Ending) (w' : World) : Prop :=
  e = .returned (.tuple #[.agg (takeP m l).cells, .string (bs (takeB m l)), .int .i64 (takeE m l : Nat)]) ∧ ∃ d', RelR (takeM m l) d' ∧ d'.cids = m.cids ∧ DocAt w' ge gl d' ∧ StsIn w' B d' ∧ Only (· = gl) w w'

set_option maxRecDepth 100000 in
set_option maxHeartbeats 4000000 in
theorem dtake_bad (m : Rcv) (d : Doc) (l : List UInt8) (ge gl B : Nat) (w : World) (hm : m.ok) (hR : RelR m d) (hdc : d.cids = m.cids) (h : DocAt w ge gl d) (hst : StsIn w B d) (hl : l.length ≤ 9223372036854775807) (hs : shapedB l m.cids = false) :
    Calls Tryz.prog 32 #[.pointer (some ⟨ge, 0, none⟩), .string (bs l)] w fun e w' => DocTook m l w ge gl B e w' := by
  have hbad : readF l = none ∨ ∃ f, readF l = some f ∧ m.cids ≤ f.cid := by
    by_cases hsh : Shape l
    · right
      exact ⟨_, readF_shape hsh, by rw [(shapeF_parts l).2.1]; exact shaped_no hs hsh⟩
    · left
      exact readF_not hsh
  have e1 : takeE m l = 4 := by
    unfold takeE
    rcases hbad with e | ⟨f, e, hc⟩
    · rw [e]
    · rw [e]; simp only; rw [if_pos hc]
  have e2 : takeP m l = zeroP := by
    unfold takeP
    rcases hbad with e | ⟨f, e, hc⟩
    · rw [e]
    · rw [e]; simp only; rw [e1, if_neg (by decide)]
  have e3 : takeB m l = [] := by
    unfold takeB
    rcases hbad with e | ⟨f, e, hc⟩
    · rw [e]
    · rw [e]; simp only; rw [e1, if_pos (Or.inr (Or.inl rfl))]
  have e4 : takeM m l = m := by
    unfold takeM
    rcases hbad with e | ⟨f, e, hc⟩
    · rw [e]
    · rw [e]; simp only; rw [e1, if_pos rfl]
  unfold DocTook
  rw [e1, e2, e3, e4]
  obtain ⟨ZP, hZP⟩ : ∃ ZP, ZP = zeroP.cells := ⟨_, rfl⟩
  have zvP : ∀ w, (zeroValue 41).run Tryz.prog w = .ok (.agg ZP) w := by rw [hZP]; intro w; exact Tryz.zeroValue41 w
  have gP : GoodPk ZP := by rw [hZP]; exact Pk.good zeroP
  rw [← hZP]
  have HZP := hide hZP
  have HSH := hide (show ∀ w : World, Calls Tryz.prog 57 #[.string (bs l), .int .i64 m.cids] w fun e w' => e = .returned (.bool false) ∧ w' = w by
    intro w; have := shaped_any l m.cids w hl hm.c8; rw [hs] at this; exact this)
  have d3 : w.cell? ⟨ge, 3, none⟩ = some (.slice (some ⟨gl, 0, none⟩) m.cids m.cids) := by have := block_cell h.head 3; rw [hR.len] at this; exact this
  have hge := block_lt h.head
  have b0 := block_alloc (heap_alloc_new w (.cells ZP 41)) (.cells ZP 41)
  have b1 : ((w.alloc (.cells ZP 41)).alloc (.cells ZP 41)).heap[w.heap.size + 1]? = some (.cells ZP 41 (0, 0)) := by
    have := heap_alloc_new (w.alloc (.cells ZP 41)) (.cells ZP 41)
    simpa using this
  have y1 : FfIn ((w.alloc (.cells ZP 41)).alloc (.cells ZP 41)) (w.heap.size + 1) := ⟨_, _, _, b1, gP.1⟩
  have y2 : ffOf ((w.alloc (.cells ZP 41)).alloc (.cells ZP 41)) (w.heap.size + 1) = ZP := by unfold ffOf; rw [b1]
  have y3 : PkTo ((w.alloc (.cells ZP 41)).alloc (.cells ZP 41)) w.heap.size := ⟨_, _, b0, gP.1⟩
  have HB0 := hide b0
  have HD := hide h
  have HST := hide hst
  have HR := hide hR
  clear hbad e1 e2 e3 e4 hZP hs h hst hR b0 b1 hm
  go_enter Tryz.func32, Tryz.ntmps32
  go_wp2_with (go_at_call 57; refine (unhide HSH _).mono ?_; rintro e w1 ⟨rfl, h1⟩; have h1 := h1.symm; subst h1)
  have hb : Below w.heap.size w (((w.alloc (.cells ZP 41)).alloc (.cells ZP 41)).setRow w.heap.size ZP) := below_setRow (((Below.refl _ _).alloc (Nat.le_refl _) _).alloc (by simp) _) (Nat.le_refl _) _
  exact ret_whole3 (cs := ZP) Tryz.results32 rfl (setRow_heap _ _ _ _ _ _ (unhide HB0)) Tryz.underlying41 rfl (by rw [gP.1]; exact infoPk) rfl ⟨rfl, d, unhide HR, hdc, (unhide HD).keep hb, (unhide HST).same (fun q cs hq => hb.block q (block_lt hq)), Only.of_below hb⟩

theorem take_err {m : Rcv} {l : List UInt8} {f : Fr} {e : Nat} (hr : readF l = some f) (hc : f.cid < m.cids) (he : refusalN (m.at_ f.cid) f (madeN (m.at_ f.cid) f) = e) (h0 : e ≠ 0) (h4 : e ≠ 4) (hk : f.kind ≠ 3) :
    takeE m l = e ∧ takeP m l = zeroP ∧ takeB m l = feedN e (((m.at_ f.cid).missed + 1) % 256) f.cid ∧ takeM m l = m.set f.cid { m.at_ f.cid with missed := ((m.at_ f.cid).missed + 1) % 256 } := by
  have e1 : takeE m l = e := by unfold takeE; rw [hr]; simp only; rw [if_neg (by omega), he]
  refine ⟨e1, ?_, ?_, ?_⟩
  · unfold takeP; rw [hr]; simp only; rw [e1, if_neg h0]
  · unfold takeB; rw [hr]; simp only; rw [e1, if_neg (by omega)]
  · unfold takeM; rw [hr]; simp only; rw [e1, if_neg h4, if_neg h0, if_neg hk]
theorem take_errw {m : Rcv} {l : List UInt8} {f : Fr} {e : Nat} (hr : readF l = some f) (hc : f.cid < m.cids) (he : refusalN (m.at_ f.cid) f (madeN (m.at_ f.cid) f) = e) (h0 : e ≠ 0) (h4 : e ≠ 4) (hk : f.kind = 3) :
    takeE m l = e ∧ takeP m l = zeroP ∧ takeB m l = [] ∧ takeM m l = m := by
  have e1 : takeE m l = e := by unfold takeE; rw [hr]; simp only; rw [if_neg (by omega), he]
  refine ⟨e1, ?_, ?_, ?_⟩
  · unfold takeP; rw [hr]; simp only; rw [e1, if_neg h0]
  · unfold takeB; rw [hr]; simp only; rw [e1, if_pos (Or.inr (Or.inr hk))]
  · unfold takeM; rw [hr]; simp only; rw [e1, if_neg h4, if_neg h0, if_pos hk]
theorem take_ok0 {m : Rcv} {l : List UInt8} {f : Fr} (hr : readF l = some f) (hc : f.cid < m.cids) (he : refusalN (m.at_ f.cid) f (madeN (m.at_ f.cid) f) = 0) :
    takeE m l = 0 ∧ takeP m l = madeN (m.at_ f.cid) f ∧ takeB m l = [] ∧ takeM m l = m.set f.cid (followN (m.at_ f.cid) f) := by
  have e1 : takeE m l = 0 := by unfold takeE; rw [hr]; simp only; rw [if_neg (by omega), he]
  refine ⟨e1, ?_, ?_, ?_⟩
  · unfold takeP; rw [hr]; simp only; rw [e1, if_pos rfl]
  · unfold takeB; rw [hr]; simp only; rw [e1, if_pos (Or.inl rfl)]
  · unfold takeM; rw [hr]; simp only; rw [e1, if_neg (by decide), if_pos rfl]
theorem InDt.start {w : World} {ge gl : Nat} {d : Doc} (h : DocAt w ge gl d) (ZP ZF Z5 : Array Value) (x : Rc) :
    InDt w ge gl d ZP (w.heap.size + 1 + 1) x (w.heap.size + 1 + 1 + 1) ZF (w.heap.size + 1 + 1 + 1 + 1) Z5 (((((w.alloc (.cells ZP 41)).alloc (.cells ZP 41)).alloc (.cells x.cells 109)).alloc (.cells ZF 125)).alloc (.cells Z5 111)) := by
  have hb2 : Below w.heap.size w ((w.alloc (.cells ZP 41)).alloc (.cells ZP 41)) := ((Below.refl _ _).alloc (Nat.le_refl _) _).alloc (by simp) _
  have e2 : ((w.alloc (.cells ZP 41)).alloc (.cells ZP 41)).heap.size = w.heap.size + 1 + 1 := by simp
  have e1 : (w.alloc (.cells ZP 41)).heap.size = w.heap.size + 1 := by simp
  have r0 := block_alloc (heap_alloc_new w (.cells ZP 41)) (.cells ZP 41)
  have r1 := heap_alloc_new (w.alloc (.cells ZP 41)) (.cells ZP 41)
  rw [e1] at r1
  generalize (w.alloc (.cells ZP 41)).alloc (.cells ZP 41) = W at hb2 e2 r0 r1 ⊢
  have b3 : Below W.heap.size W (((W.alloc (.cells x.cells 109)).alloc (.cells ZF 125)).alloc (.cells Z5 111)) := (((Below.refl _ _).alloc (Nat.le_refl _) _).alloc (by simp) _).alloc (by simp; omega) _
  have c0 := block_alloc (block_alloc (heap_alloc_new W (.cells x.cells 109)) (.cells ZF 125)) (.cells Z5 111)
  have c1 := second_alloc W (.cells x.cells 109) (.cells ZF 125) (.cells Z5 111)
  have c2 := third_alloc W (.cells x.cells 109) (.cells ZF 125) (.cells Z5 111)
  rw [e2] at c0 c1 c2
  have hb5 := keep_below hb2 b3 hb2.size
  exact ⟨h.keep hb5, block_keep r0 b3, block_keep r1 b3, c0, c1, c2, block_lt h.head, block_lt h.rows, by omega, by omega, by omega, hb5⟩
/-- one cell of the context in the End is turned -/
structure InDm (w : World) (ge gl : Nat) (d : Doc) (ZP : Array Value) (w1 : World) : Prop where
  doc : DocAt w1 ge gl d
  res : w1.heap[w.heap.size]? = some (.cells ZP 41 (0, 0))
  non : w1.heap[w.heap.size + 1]? = some (.cells ZP 41 (0, 0))
  only : Only (· = gl) w w1
theorem InDm.call {w w1 w2 : World} {ge gl : Nat} {d : Doc} {ZP : Array Value} (h : InDm w ge gl d ZP w1) (hb : Below w1.heap.size w1 w2) : InDm w ge gl d ZP w2 := ⟨h.doc.keep hb, block_keep h.res hb, block_keep h.non hb, h.only.trans (Only.of_below hb)⟩
theorem InDm.drew {w w1 : World} {ge gl : Nat} {d : Doc} {ZP : Array Value} (h : InDm w ge gl d ZP w1) : InDm w ge gl d ZP w1.drew := h.call (Below.refl _ _).drew
theorem InDm.putR {w w1 : World} {ge gl : Nat} {d : Doc} {ZP : Array Value} (h : InDm w ge gl d ZP w1) (hge : ge < w.heap.size) (hgl : gl < w.heap.size) : InDm w ge gl d ZP (w1.setRow w.heap.size ZP) :=
  ⟨⟨by rw [setRow_other _ _ _ _ (by omega)]; exact h.doc.head, by rw [setRow_other _ _ _ _ (by omega)]; exact h.doc.rows, h.doc.sl⟩, setRow_heap _ _ _ _ _ _ h.res, by rw [setRow_other _ _ _ _ (by omega)]; exact h.non, h.only.new (Nat.le_refl _) _⟩
theorem InDm.out {w w1 : World} {ge gl n : Nat} {d : Doc} {ZP : Array Value} (h : InDm w ge gl d ZP w1) (hn : d.cs.length = n) (hZ : ZP.size = 8) {i : Nat} (hi : i < n) {M : Nat} (hM : (d.at_ i).missed = M) :
    w1.cell? ⟨ge, 3, none⟩ = some (.slice (some ⟨gl, 0, none⟩) n n) ∧ w1.cell? ⟨gl, i * 13 + 12, none⟩ = some (.int .i64 (M : Int)) ∧ FfIn w1 (w.heap.size + 1) ∧ ffOf w1 (w.heap.size + 1) = ZP ∧ PkTo w1 w.heap.size ∧ InDm w ge gl d ZP w1 := by
  refine ⟨?_, ?_, ⟨_, _, _, h.non, hZ⟩, by unfold ffOf; rw [h.non], ⟨_, _, h.res, hZ⟩, h⟩
  · have := block_cell h.doc.head 3
    rw [hn] at this
    exact this
  · rw [← hM]
    exact (h.doc.cells (by omega) rfl).2.2.2.2.2.2.2.2.2.2.2.2
theorem missed_put {w w1 : World} {ge gl gx gf gn : Nat} {d : Doc} {ZP F N : Array Value} {x : Rc} (h : InDt w ge gl d ZP gx x gf F gn N w1) {i : Nat} (hi : i < d.cs.length) (hx : d.at_ i = x) (M : Nat) :
    InDm w ge gl (d.set i { x with missed := M }) ZP (w1.setCell ⟨gl, i * 13 + 12, none⟩ (.int .i64 (M : Int))) := by
  have h2 := h.lb
  have e := heap_setCell_same w1 gl (i * 13 + 12) _ _ (.int .i64 (M : Int)) h.doc.rows
  rw [Doc.put d i 12 _ { x with missed := M } hi (by omega) (by rw [hx]; rfl)] at e
  have hl : (d.set i { x with missed := M }).cs.length = d.cs.length := by simp [Doc.set]
  refine ⟨⟨?_, e, fun j hj => ?_⟩, block_set h.res (by show w.heap.size ≠ gl; omega) _, block_set h.non (by show w.heap.size + 1 ≠ gl; omega) _, Only.setCell (S := (· = gl)) (p := ⟨gl, i * 13 + 12, none⟩) (Only.of_below h.below) rfl _⟩
  · rw [hl]
    exact block_set h.doc.head (apart_ty h.doc.head h.doc.rows (by decide)) _
  · rw [Doc.set_at _ _ _ _ hi]
    split
    · have := h.doc.sl i hi
      rw [hx] at this
      exact this
    · exact h.doc.sl j (by omega)
theorem missed_sts {w w1 : World} {B ge gl i : Nat} {d : Doc} {x : Rc} {M : Nat} (h : StsIn w B d) (hd : DocAt w ge gl d) (hi : i < d.cs.length) (hx : d.at_ i = x) (o : Only (· = gl) w w1) : StsIn w1 B (d.set i { x with missed := M }) := by
  intro j hj
  have hj' : j < d.cs.length := by simpa [Doc.set] using hj
  have key : ((d.set i { x with missed := M }).at_ j).sv = (d.at_ j).sv ∧ ((d.set i { x with missed := M }).at_ j).sts = (d.at_ j).sts := by
    rw [Doc.set_at _ _ _ _ hi]
    split
    · rename_i e; rw [e, hx]; exact ⟨rfl, rfl⟩
    · exact ⟨rfl, rfl⟩
  rw [key.1, key.2]
  refine ⟨own_same (h j hj').1 (fun q hq => ?_), (h j hj').2⟩
  obtain ⟨cur, hc⟩ := own_ty (h j hj').1 hq
  exact o.block q (block_lt hc) (fun e => apart_ty hc hd.rows (by decide) e)
theorem missed_rel {m : Rcv} {d : Doc} (hm : m.ok) (h : RelR m d) {i : Nat} (hi : i < m.cids) {c : Rx} (hc : m.at_ i = c) {x : Rc} (hx : d.at_ i = x) (M : Nat) : RelR (m.set i { c with missed := M }) (d.set i { x with missed := M }) := by
  have o := h.one i hi
  rw [hc, hx] at o
  exact h.put hm hi ⟨o.has, o.rt, o.sts, rfl, o.sent, o.tn⟩

/-- the context is made anew -/
structure InDz (w : World) (ge gl : Nat) (d : Doc) (gf : Nat) (F : Array Value) (v : Value) (n : St) (w1 : World) : Prop where
  doc : DocAt w1 ge gl d
  res : PkTo w1 w.heap.size
  fl : w1.heap[gf]? = some (.cells F 125 (0, 0))
  own : w1.ownsRow w.heap.size 111 5 v 1 (scells [n])
  only : Only (· = gl) w w1
def Rc.took (p : Pk) (t : Nat) (v : Value) (n : St) : Rc := ⟨true, p.src, p.dst, p.port, t, v, [n], 0, 0, 0, 0, 0, 0, 0⟩
theorem goodRc_took (a b c t : Int) (g : Nat) : GoodRc #[.bool true, .int .u32 a, .int .u32 b, .int .u16 c, .int .i64 t, .slice (some ⟨g, 0, none⟩) 1 1, .int .i64 0, .int .i64 0, .int .i64 0, .int .i64 0, .int .i64 0, .int .i64 0, .int .i64 0] := ⟨rfl, Array.all_eq_true_iff_forall_mem.2 (fun v hv => by
  simp only [List.mem_toArray, List.mem_cons, List.not_mem_nil, or_false] at hv
  rcases hv with e | e | e | e | e | e | e | e | e | e | e | e | e <;> (subst e; rfl))⟩
theorem took_put {w w1 : World} {ge gl gx gf gn : Nat} {d : Doc} {ZP F N : Array Value} {x : Rc} (hZ : ZP.size = 8) (h : InDt w ge gl d ZP gx x gf F gn N w1) {i : Nat} (hi : i < d.cs.length) (p : Pk) (t : Nat) (n : St) :
    InDz w ge gl (d.set i (Rc.took p t (.slice (some ⟨w1.heap.size, 0, none⟩) 1 1) n)) gf F (.slice (some ⟨w1.heap.size, 0, none⟩) 1 1) n ((w1.alloc (.cells n.flat 111)).setRow gl (putRow (rowOf (w1.alloc (.cells n.flat 111)) gl) (i * 13) (Rc.took p t (.slice (some ⟨w1.heap.size, 0, none⟩) 1 1) n).cells.toList)) := by
  have hb : Below w1.heap.size w1 (w1.alloc (.cells n.flat 111)) := (Below.refl _ _).alloc (Nat.le_refl _) _
  have h2 := h.call hb
  have hn := heap_alloc_new w1 (.cells n.flat 111)
  have hsz : w.heap.size ≤ w1.heap.size := h.below.size
  generalize w1.alloc (.cells n.flat 111) = w2 at h2 hn ⊢
  have hlb := h.lb
  have e : rowOf w2 gl = d.row.toArray := by unfold rowOf; rw [h2.doc.rows]
  have hl : (d.set i (Rc.took p t (.slice (some ⟨w1.heap.size, 0, none⟩) 1 1) n)).cs.length = d.cs.length := by simp [Doc.set]
  rw [e, Doc.putAll d _ hi]
  refine ⟨⟨?_, setRow_heap _ _ _ _ _ _ h2.doc.rows, fun j hj => ?_⟩, ⟨ZP, _, by rw [setRow_other _ _ _ _ (by omega)]; exact h2.res, hZ⟩, by rw [setRow_other _ _ _ _ (apart_ty h2.fl h2.doc.rows (by decide))]; exact h2.fl, ⟨rfl, Or.inr ⟨w1.heap.size, 1, n.flat, rfl, hsz, by rw [setRow_other _ _ _ _ (apart_ty hn h2.doc.rows (by decide))]; exact hn, Nat.le_refl _, by decide, rfl, ?_⟩⟩, Only.setRow (S := (· = gl)) (Only.of_below h2.below) rfl _⟩
  · rw [hl, setRow_other _ _ _ _ (apart_ty h2.doc.head h2.doc.rows (by decide))]; exact h2.doc.head
  · rw [Doc.set_at _ _ _ _ hi]
    split
    · exact ⟨_, _, _, rfl⟩
    · exact h2.doc.sl j (by omega)
  · simp [scells, St.flat]
theorem took_sts {w w1 : World} {B ge gl i : Nat} {d : Doc} {p : Pk} {t : Nat} {v : Value} {n : St} (h : StsIn w B d) (hd : DocAt w ge gl d) (hi : i < d.cs.length) (o : Only (· = gl) w w1) (hB : B ≤ w.heap.size) (hv : w1.ownsRow w.heap.size 111 5 v 1 (scells [n])) : StsIn w1 B (d.set i (Rc.took p t v n)) := by
  intro j hj
  have hj' : j < d.cs.length := by simpa [Doc.set] using hj
  rw [Doc.set_at _ _ _ _ hi]
  split
  · exact ⟨own_dn hv hB, by show 1 ≤ 5; decide⟩
  · refine ⟨own_same (h j hj').1 (fun q hq => ?_), (h j hj').2⟩
    obtain ⟨cur, hc⟩ := own_ty (h j hj').1 hq
    exact o.block q (block_lt hc) (fun e => apart_ty hc hd.rows (by decide) e)

attribute [local go_sem] goodRc_took

set_option maxRecDepth 100000 in
set_option maxHeartbeats 8000000 in
theorem dtake_8 (m : Rcv) (d : Doc) (l : List UInt8) (ge gl B : Nat) (w : World) (hm : m.ok) (hR : RelR m d) (hdc : d.cids = m.cids) (h : DocAt w ge gl d) (hst : StsIn w B d) (hB : B ≤ w.heap.size) (hl : l.length ≤ 9223372036854775807) (hs : shapedB l m.cids = true) (hk : (shapeF l).kind ≠ 3) (hbg : (m.at_ (shapeF l).cid).begun = false) :
    Calls Tryz.prog 32 #[.pointer (some ⟨ge, 0, none⟩), .string (bs l)] w fun e w' => DocTook m l w ge gl B e w' := by
  obtain ⟨hsh, hci⟩ := shaped_yes hs
  have hrf := readF_shape hsh
  obtain ⟨p1, p2, p3, p4⟩ := shapeF_parts l
  have s0 : 0 < (bs l).size := by rw [bs_size]; have := hsh.some_; omega
  have b0 := byte_at l 0 (by have := hsh.some_; omega) s0
  have l0 := byteN_lt l 0
  obtain ⟨I, hI⟩ : ∃ I, I = byteN l 0 / 2 % 8 := ⟨_, rfl⟩
  obtain ⟨K, hK⟩ : ∃ K, K = byteN l 0 / 64 := ⟨_, rfl⟩
  obtain ⟨TN, hTN⟩ : ∃ T, T = byteN l 0 / 16 % 4 := ⟨_, rfl⟩
  obtain ⟨H16, hH16⟩ : ∃ H, H = byteN l 0 / 16 := ⟨_, rfl⟩
  obtain ⟨H2, hH2⟩ : ∃ H, H = byteN l 0 / 2 := ⟨_, rfl⟩
  obtain ⟨Q, hQ⟩ : ∃ Q, Q = byteN l 0 := ⟨_, rfl⟩
  obtain ⟨f, hf⟩ : ∃ f, f = shapeF l := ⟨_, rfl⟩
  rw [← hf] at p1 p2 p3 hrf hk hbg
  rw [← hQ] at b0 l0 hI hK hTN hH16 hH2 p1 p2 p3 hci
  rw [← hI] at p2 hci
  rw [← hK] at p1
  rw [← hTN] at p3
  have K4 : K ≤ 3 := by omega
  have q1 : (Q : Int).tdiv 64 = (K : Int) := by rw [hK, Int.tdiv_eq_ediv_of_nonneg (by omega)]; omega
  have q1' : (Q : Int) / 64 = (K : Int) := by rw [hK]; omega
  have q2 : (Q : Int).tdiv 16 = (H16 : Int) := by rw [hH16, Int.tdiv_eq_ediv_of_nonneg (by omega)]; omega
  have q2' : (Q : Int) / 16 = (H16 : Int) := by rw [hH16]; omega
  have q3 : (H16 : Int).tmod 4 = (TN : Int) := by rw [hTN, hH16, Int.tmod_eq_emod_of_nonneg (by omega)]; omega
  have q3' : (H16 : Int) % 4 = (TN : Int) := by rw [hTN, hH16]; omega
  have q4 : (Q : Int).tdiv 2 = (H2 : Int) := by rw [hH2, Int.tdiv_eq_ediv_of_nonneg (by omega)]; omega
  have q4' : (Q : Int) / 2 = (H2 : Int) := by rw [hH2]; omega
  have q5 : (H2 : Int).tmod 8 = (I : Int) := by rw [hI, hH2, Int.tmod_eq_emod_of_nonneg (by omega)]; omega
  have q5' : (H2 : Int) % 8 = (I : Int) := by rw [hI, hH2]; omega
  have hI8 : I < 8 := by omega
  have hId : I < d.cs.length := by rw [hR.len]; exact hci
  rw [p2] at hbg
  obtain ⟨c, hc⟩ : ∃ c, m.at_ I = c := ⟨_, rfl⟩
  obtain ⟨x, hx⟩ : ∃ x, d.at_ I = x := ⟨_, rfl⟩
  rw [hc] at hbg
  have rx := hR.one I hci
  rw [hc, hx] at rx
  have cok : c.ok := by rw [← hc]; exact Rcv.at_ok hm I
  have TK := take_err (m := m) (e := 8) hrf (by rw [p2]; exact hci) (by rw [p2, hc]; unfold refusalN; rw [if_pos ⟨hk, hbg⟩]) (by decide) (by decide) hk
  rw [p2, hc] at TK
  rw [p1] at hk
  have kI : ¬ ((K : Int) = 3) := by omega
  have kI2 : ((K : Int) == 3) = false := beq_eq_false_iff_ne.2 kI
  have kI3 : ((K : Int) != 3) = true := bne_iff_ne.2 kI

  obtain ⟨ZP, hZP⟩ : ∃ ZP, ZP = zeroP.cells := ⟨_, rfl⟩
  have zvP : ∀ w, (zeroValue 41).run Tryz.prog w = .ok (.agg ZP) w := by rw [hZP]; intro w; exact Tryz.zeroValue41 w
  have gP : GoodPk ZP := by rw [hZP]; exact Pk.good zeroP
  obtain ⟨ZF, hZF⟩ : ∃ ZF : Array Value, ZF = zeroP.flat := ⟨_, rfl⟩
  have zvF : ∀ w, (zeroValue 125).run Tryz.prog w = .ok (.agg ZF) w := by rw [hZF]; intro w; exact Tryz.zeroValue125 w
  obtain ⟨Z5, hZ5⟩ : ∃ Z5 : Array Value, Z5 = St.zero.flat := ⟨_, rfl⟩
  have zv5 : ∀ w, (zeroValue 111).run Tryz.prog w = .ok (.agg Z5) w := by rw [hZ5]; intro w; exact Tryz.zeroValue111 w
  obtain ⟨Z, hZ⟩ : ∃ Z : Array Value, Z = Rc.blank.cells := ⟨_, rfl⟩
  have zv : ∀ w, (zeroValue 109).run Tryz.prog w = .ok (.agg Z) w := by rw [hZ]; intro w; exact Tryz.zeroValue109 w
  have HZP := hide hZP
  have HSH := hide (show ∀ w : World, Calls Tryz.prog 57 #[.string (bs l), .int .i64 m.cids] w fun e w' => e = .returned (.bool true) ∧ w' = w by
    intro w; have := shaped_any l m.cids w hl hm.c8; rw [hs] at this; exact this)
  have d3 : w.cell? ⟨ge, 3, none⟩ = some (.slice (some ⟨gl, 0, none⟩) m.cids m.cids) := by have := block_cell h.head 3; rw [hR.len] at this; exact this
  have hge := block_lt h.head
  have hgl := block_lt h.rows
  have hb2 : Below w.heap.size w ((w.alloc (.cells ZP 41)).alloc (.cells ZP 41)) := ((Below.refl _ _).alloc (Nat.le_refl _) _).alloc (by simp) _
  have D2 := h.keep hb2
  have r1 := D2.rcIn hId
  have r2 := D2.rcOf hId
  rw [hx] at r2
  obtain ⟨X, hX⟩ : ∃ X, X = x.cells := ⟨_, rfl⟩
  rw [← hX] at r2
  have hslx : ∃ a l c, x.sv = .slice a l c := by rw [← hx]; exact h.sl I hId
  have gs := run_storeRc_new ((w.alloc (.cells ZP 41)).alloc (.cells ZP 41)) X Z 109 (by rw [hX]; exact Rc.good_ hslx) (by rw [hZ]; rfl)
  have eW : ((w.alloc (.cells ZP 41)).alloc (.cells ZP 41)).heap.size = w.heap.size + 1 + 1 := by simp
  rw [eW] at gs
  have I5 := InDt.start h ZP ZF Z5 x
  rw [← hX] at I5
  have z1 : RcIn (((((w.alloc (.cells ZP 41)).alloc (.cells ZP 41)).alloc (.cells X 109)).alloc (.cells ZF 125)).alloc (.cells Z5 111)) (w.heap.size + 1 + 1) 0 := block_rcIn I5.cx
  have z2 : rcOf (((((w.alloc (.cells ZP 41)).alloc (.cells ZP 41)).alloc (.cells X 109)).alloc (.cells ZF 125)).alloc (.cells Z5 111)) (w.heap.size + 1 + 1) 0 = X := (block_rcOf I5.cx).trans hX.symm
  have xh : X[0]? = some (.bool false) := by rw [hX]; show some (Value.bool x.has) = _; rw [rx.has, hbg]
  have xt : X[4]? = some (.int .i64 (x.turn : Int)) := by rw [hX]; rfl
  have i0 : (0 : Int) ≤ (I : Int) := by omega
  have i1 : (I : Int) < (m.cids : Int) := by omega
  have wI : IntKind.i64.wrap (I : Int) = (I : Int) := by rw [IntKind.wrap_i64]; omega
  obtain ⟨M, hM⟩ : ∃ M, M = (c.missed + 1) % 256 := ⟨_, rfl⟩
  have hM2 := cok.missed
  have x12 : X[12]? = some (.int .i64 (c.missed : Int)) := by rw [hX, ← rx.missed]; rfl
  have v1 : IntKind.i64.wrap ((c.missed : Int) + 1) = (c.missed : Int) + 1 := by rw [IntKind.wrap_i64]; omega
  have v2 : ((c.missed : Int) + 1).tmod 256 = (M : Int) := by rw [hM, Int.tmod_eq_emod_of_nonneg (by omega)]; omega
  have v2' : ((c.missed : Int) + 1) % 256 = (M : Int) := by rw [hM]; omega
  have hM3 : M < 256 := by omega
  have v3 : IntKind.i64.wrap (M : Int) = (M : Int) := by rw [IntKind.wrap_i64]; omega

  have HI5 := hide I5
  have HXX := hide hX
  have HR := hide hR
  have HD := hide h
  have HST := hide hst
  have HHM := hide hm
  have Hc := hide hc
  have Hx := hide hx
  have HdI := hide hId
  have HLEN := hide hR.len
  have HTK := hide TK
  have HME := hide hM
  clear hX hR h hst hm hc hx hId TK D2 hb2 hsh hrf p1 p2 p3 p4 hI hK hTN hH16 hH2 hQ hf hs rx hM hZP hZF hZ5 hZ hslx hM2 I5 hbg hk
  go_enter Tryz.func32, Tryz.ntmps32
  go_upto_region 23 with ((go_at_call 57; refine (unhide HSH _).mono ?_; rintro e w1 ⟨rfl, h1⟩; have h1 := h1.symm; subst h1))
  clear r1 r2 gs eW z1 z2 zv zvF zv5 zvP q1 q1' q2 q2' q3 q3' q4 q4' q5 q5' xh xt b0 l0
  rw [unhide HXX] at HI5 ⊢
  have HI6 := HI5
  generalize ((((w.alloc (.cells ZP 41)).alloc (.cells ZP 41)).alloc (.cells x.cells 109)).alloc (.cells ZF 125)).alloc (.cells Z5 111) = W6 at HI5 HI6 ⊢
  generalize w.heap.size + 1 + 1 + 1 + 1 = gn at HI5 HI6 ⊢
  generalize w.heap.size + 1 + 1 + 1 = gf at HI5 HI6 ⊢
  generalize w.heap.size + 1 + 1 = gx at HI5 HI6 ⊢
  have m12 : W6.cell? ⟨gx, 12, none⟩ = some (.int .i64 (c.missed : Int)) := (block_cell (unhide HI6).cx 12).trans (by rw [← unhide HXX]; exact x12)
  have m12d : W6.drew.cell? ⟨gx, 12, none⟩ = some (.int .i64 (c.missed : Int)) := m12
  have e3 : W6.cell? ⟨ge, 3, none⟩ = some (.slice (some ⟨gl, 0, none⟩) m.cids m.cids) := by have := block_cell (unhide HI6).doc.head 3; rw [unhide HLEN] at this; exact this
  have e3d : W6.drew.cell? ⟨ge, 3, none⟩ = some (.slice (some ⟨gl, 0, none⟩) m.cids m.cids) := e3
  have g12 : W6.cell? ⟨gl, I * 13 + 12, none⟩ = some (.int .i64 (x.missed : Int)) := ((unhide HI6).doc.cells (unhide HdI) (unhide Hx)).2.2.2.2.2.2.2.2.2.2.2.2
  have g12d : W6.drew.cell? ⟨gl, I * 13 + 12, none⟩ = some (.int .i64 (x.missed : Int)) := g12
  have fr := block_free (unhide HI6).doc.rows (I * 13 + 12)
  have frd : W6.drew.frozen? ⟨gl, I * 13 + 12, none⟩ = false := fr
  clear x12 d3
  go_cut [13] (fun v wx => v = .int .i64 8 ∧ InDm w ge gl (d.set I { x with missed := M }) ZP wx)
  case first =>
    go_region
    all_goals
      have HM6 := hide ((missed_put (unhide HI6) (unhide HdI) (unhide Hx) M).drew)
      go_wp2_with fail
      go_meet
      case rel => exact ⟨rfl, unhide HM6⟩
  case rest =>
    obtain ⟨rfl, IM⟩ := hcut
    have HIM := hide IM
    clear IM m12 m12d e3 e3d g12 g12d fr frd v1 v2 v2' v3
    obtain ⟨d2, hd2⟩ : ∃ d2, d2 = d.set I { x with missed := M } := ⟨_, rfl⟩
    have hn2 : d2.cs.length = m.cids := by rw [hd2]; simp only [Doc.set, List.length_set]; exact unhide HLEN
    have hm2 : (d2.at_ I).missed = M := by rw [hd2, Doc.set_at _ _ _ _ (unhide HdI), if_pos rfl]
    rw [← hd2] at HIM
    have Hd2 := hide hd2
    have Hn2 := hide hn2
    have Hm2 := hide hm2
    obtain ⟨FB, hFB⟩ : ∃ FB, FB = feedN 8 M I := ⟨_, rfl⟩
    have HFB := hide hFB
    clear hd2 hn2 hm2 hFB
    go_upto_region 24 with fail
    have FIN := hide (show ∀ W : World, InDm w ge gl d2 ZP W → DocTook m l w ge gl B (.returned (.tuple #[.agg ZP, .string (bs FB), .int .i64 8])) W by
      intro W hW
      obtain ⟨t1, t2, t3, t4⟩ := unhide HTK
      refine ⟨?_, d2, ?_, ?_, hW.doc, ?_, hW.only⟩
      · rw [t1, t2, t3, unhide HFB, unhide HZP, unhide HME]; rfl
      · rw [t4, ← unhide HME, unhide Hd2]
        exact missed_rel (unhide HHM) (unhide HR) hci (unhide Hc) (unhide Hx) M
      · rw [unhide Hd2]; exact hdc
      · rw [unhide Hd2]
        exact missed_sts (unhide HST) (unhide HD) (unhide HdI) (unhide Hx) hW.only)
    have HQ := hide (unhide HIM).drew
    go_region_held3 (fun w' => w'.cell? ⟨ge, 3, none⟩ = some (.slice (some ⟨gl, 0, none⟩) m.cids m.cids) ∧ w'.cell? ⟨gl, I * 13 + 12, none⟩ = some (.int .i64 (M : Int)) ∧ FfIn w' (w.heap.size + 1) ∧ ffOf w' (w.heap.size + 1) = ZP ∧ PkTo w' w.heap.size ∧ InDm w ge gl d2 ZP w')
      ((first
        | (exact (unhide HIM).drew.out (unhide Hn2) gP.1 hci (unhide Hm2))
        | (exact (unhide (by assumption : Hid (InDm w ge gl d2 ZP _))).out (unhide Hn2) gP.1 hci (unhide Hm2))
        | (exact ((unhide (by assumption : Hid (InDm w ge gl d2 ZP _))).putR hge hgl).out (unhide Hn2) gP.1 hci (unhide Hm2))))
      ((go_at_call 59; refine (rasks_any M I 8 _ hM3 hI8 (by omega)).mono ?_; rintro e w8 ⟨rfl, hbel⟩; rw [← unhide HFB]; have HQ8 := hide (InDm.call (unhide HIM).drew hbel)))
    all_goals go_split_ands
    all_goals (have HM9 := hide ‹InDm w ge gl d2 ZP _›)
    all_goals go_wp2_with fail
    all_goals exact ret_whole3 (cs := ZP) Tryz.results32 rfl (unhide HM9).res Tryz.underlying41 rfl (by rw [gP.1]; exact infoPk) rfl (unhide FIN _ (unhide HM9))

set_option maxRecDepth 100000 in
set_option maxHeartbeats 8000000 in
theorem dtake_9 (m : Rcv) (d : Doc) (l : List UInt8) (ge gl B : Nat) (w : World) (hm : m.ok) (hR : RelR m d) (hdc : d.cids = m.cids) (h : DocAt w ge gl d) (hst : StsIn w B d) (hB : B ≤ w.heap.size) (hl : l.length ≤ 9223372036854775807) (hs : shapedB l m.cids = true) (hk : (shapeF l).kind ≠ 3) (hbg : (m.at_ (shapeF l).cid).begun = true) (htn : (m.at_ (shapeF l).cid).turn ≠ (shapeF l).turn) :
    Calls Tryz.prog 32 #[.pointer (some ⟨ge, 0, none⟩), .string (bs l)] w fun e w' => DocTook m l w ge gl B e w' := by
  obtain ⟨hsh, hci⟩ := shaped_yes hs
  have hrf := readF_shape hsh
  obtain ⟨p1, p2, p3, p4⟩ := shapeF_parts l
  have s0 : 0 < (bs l).size := by rw [bs_size]; have := hsh.some_; omega
  have b0 := byte_at l 0 (by have := hsh.some_; omega) s0
  have l0 := byteN_lt l 0
  obtain ⟨I, hI⟩ : ∃ I, I = byteN l 0 / 2 % 8 := ⟨_, rfl⟩
  obtain ⟨K, hK⟩ : ∃ K, K = byteN l 0 / 64 := ⟨_, rfl⟩
  obtain ⟨TN, hTN⟩ : ∃ T, T = byteN l 0 / 16 % 4 := ⟨_, rfl⟩
  obtain ⟨H16, hH16⟩ : ∃ H, H = byteN l 0 / 16 := ⟨_, rfl⟩
  obtain ⟨H2, hH2⟩ : ∃ H, H = byteN l 0 / 2 := ⟨_, rfl⟩
  obtain ⟨Q, hQ⟩ : ∃ Q, Q = byteN l 0 := ⟨_, rfl⟩
  obtain ⟨f, hf⟩ : ∃ f, f = shapeF l := ⟨_, rfl⟩
  rw [← hf] at p1 p2 p3 hrf hk hbg htn
  rw [← hQ] at b0 l0 hI hK hTN hH16 hH2 p1 p2 p3 hci
  rw [← hI] at p2 hci
  rw [← hK] at p1
  rw [← hTN] at p3
  have K4 : K ≤ 3 := by omega
  have q1 : (Q : Int).tdiv 64 = (K : Int) := by rw [hK, Int.tdiv_eq_ediv_of_nonneg (by omega)]; omega
  have q1' : (Q : Int) / 64 = (K : Int) := by rw [hK]; omega
  have q2 : (Q : Int).tdiv 16 = (H16 : Int) := by rw [hH16, Int.tdiv_eq_ediv_of_nonneg (by omega)]; omega
  have q2' : (Q : Int) / 16 = (H16 : Int) := by rw [hH16]; omega
  have q3 : (H16 : Int).tmod 4 = (TN : Int) := by rw [hTN, hH16, Int.tmod_eq_emod_of_nonneg (by omega)]; omega
  have q3' : (H16 : Int) % 4 = (TN : Int) := by rw [hTN, hH16]; omega
  have q4 : (Q : Int).tdiv 2 = (H2 : Int) := by rw [hH2, Int.tdiv_eq_ediv_of_nonneg (by omega)]; omega
  have q4' : (Q : Int) / 2 = (H2 : Int) := by rw [hH2]; omega
  have q5 : (H2 : Int).tmod 8 = (I : Int) := by rw [hI, hH2, Int.tmod_eq_emod_of_nonneg (by omega)]; omega
  have q5' : (H2 : Int) % 8 = (I : Int) := by rw [hI, hH2]; omega
  have hI8 : I < 8 := by omega
  have hId : I < d.cs.length := by rw [hR.len]; exact hci
  rw [p2] at hbg htn
  obtain ⟨c, hc⟩ : ∃ c, m.at_ I = c := ⟨_, rfl⟩
  obtain ⟨x, hx⟩ : ∃ x, d.at_ I = x := ⟨_, rfl⟩
  rw [hc] at hbg htn
  have rx := hR.one I hci
  rw [hc, hx] at rx
  have cok : c.ok := by rw [← hc]; exact Rcv.at_ok hm I
  have TK := take_err (m := m) (e := 9) hrf (by rw [p2]; exact hci) (by rw [p2, hc]; unfold refusalN; rw [if_neg (by rw [hbg]; simp), if_pos ⟨hk, htn⟩]) (by decide) (by decide) hk
  rw [p2, hc] at TK
  rw [p1] at hk
  rw [p3] at htn
  have kI : ¬ ((K : Int) = 3) := by omega
  have kI2 : ((K : Int) == 3) = false := beq_eq_false_iff_ne.2 kI
  have kI3 : ((K : Int) != 3) = true := bne_iff_ne.2 kI
  have tI : ¬ ((x.turn : Int) = (TN : Int)) := by have := (rx.rt hbg).2.2.2; omega
  have tI2 : ¬ (x.turn = TN) := by omega
  have tI3 : ((x.turn : Int) == (TN : Int)) = false := beq_eq_false_iff_ne.2 tI
  have tI4 : ((x.turn : Int) != (TN : Int)) = true := bne_iff_ne.2 tI

  obtain ⟨ZP, hZP⟩ : ∃ ZP, ZP = zeroP.cells := ⟨_, rfl⟩
  have zvP : ∀ w, (zeroValue 41).run Tryz.prog w = .ok (.agg ZP) w := by rw [hZP]; intro w; exact Tryz.zeroValue41 w
  have gP : GoodPk ZP := by rw [hZP]; exact Pk.good zeroP
  obtain ⟨ZF, hZF⟩ : ∃ ZF : Array Value, ZF = zeroP.flat := ⟨_, rfl⟩
  have zvF : ∀ w, (zeroValue 125).run Tryz.prog w = .ok (.agg ZF) w := by rw [hZF]; intro w; exact Tryz.zeroValue125 w
  obtain ⟨Z5, hZ5⟩ : ∃ Z5 : Array Value, Z5 = St.zero.flat := ⟨_, rfl⟩
  have zv5 : ∀ w, (zeroValue 111).run Tryz.prog w = .ok (.agg Z5) w := by rw [hZ5]; intro w; exact Tryz.zeroValue111 w
  obtain ⟨Z, hZ⟩ : ∃ Z : Array Value, Z = Rc.blank.cells := ⟨_, rfl⟩
  have zv : ∀ w, (zeroValue 109).run Tryz.prog w = .ok (.agg Z) w := by rw [hZ]; intro w; exact Tryz.zeroValue109 w
  have HZP := hide hZP
  have HSH := hide (show ∀ w : World, Calls Tryz.prog 57 #[.string (bs l), .int .i64 m.cids] w fun e w' => e = .returned (.bool true) ∧ w' = w by
    intro w; have := shaped_any l m.cids w hl hm.c8; rw [hs] at this; exact this)
  have d3 : w.cell? ⟨ge, 3, none⟩ = some (.slice (some ⟨gl, 0, none⟩) m.cids m.cids) := by have := block_cell h.head 3; rw [hR.len] at this; exact this
  have hge := block_lt h.head
  have hgl := block_lt h.rows
  have hb2 : Below w.heap.size w ((w.alloc (.cells ZP 41)).alloc (.cells ZP 41)) := ((Below.refl _ _).alloc (Nat.le_refl _) _).alloc (by simp) _
  have D2 := h.keep hb2
  have r1 := D2.rcIn hId
  have r2 := D2.rcOf hId
  rw [hx] at r2
  obtain ⟨X, hX⟩ : ∃ X, X = x.cells := ⟨_, rfl⟩
  rw [← hX] at r2
  have hslx : ∃ a l c, x.sv = .slice a l c := by rw [← hx]; exact h.sl I hId
  have gs := run_storeRc_new ((w.alloc (.cells ZP 41)).alloc (.cells ZP 41)) X Z 109 (by rw [hX]; exact Rc.good_ hslx) (by rw [hZ]; rfl)
  have eW : ((w.alloc (.cells ZP 41)).alloc (.cells ZP 41)).heap.size = w.heap.size + 1 + 1 := by simp
  rw [eW] at gs
  have I5 := InDt.start h ZP ZF Z5 x
  rw [← hX] at I5
  have z1 : RcIn (((((w.alloc (.cells ZP 41)).alloc (.cells ZP 41)).alloc (.cells X 109)).alloc (.cells ZF 125)).alloc (.cells Z5 111)) (w.heap.size + 1 + 1) 0 := block_rcIn I5.cx
  have z2 : rcOf (((((w.alloc (.cells ZP 41)).alloc (.cells ZP 41)).alloc (.cells X 109)).alloc (.cells ZF 125)).alloc (.cells Z5 111)) (w.heap.size + 1 + 1) 0 = X := (block_rcOf I5.cx).trans hX.symm
  have xh : X[0]? = some (.bool true) := by rw [hX]; show some (Value.bool x.has) = _; rw [rx.has, hbg]
  have xt : X[4]? = some (.int .i64 (x.turn : Int)) := by rw [hX]; rfl
  have i0 : (0 : Int) ≤ (I : Int) := by omega
  have i1 : (I : Int) < (m.cids : Int) := by omega
  have wI : IntKind.i64.wrap (I : Int) = (I : Int) := by rw [IntKind.wrap_i64]; omega
  obtain ⟨M, hM⟩ : ∃ M, M = (c.missed + 1) % 256 := ⟨_, rfl⟩
  have hM2 := cok.missed
  have x12 : X[12]? = some (.int .i64 (c.missed : Int)) := by rw [hX, ← rx.missed]; rfl
  have v1 : IntKind.i64.wrap ((c.missed : Int) + 1) = (c.missed : Int) + 1 := by rw [IntKind.wrap_i64]; omega
  have v2 : ((c.missed : Int) + 1).tmod 256 = (M : Int) := by rw [hM, Int.tmod_eq_emod_of_nonneg (by omega)]; omega
  have v2' : ((c.missed : Int) + 1) % 256 = (M : Int) := by rw [hM]; omega
  have hM3 : M < 256 := by omega
  have v3 : IntKind.i64.wrap (M : Int) = (M : Int) := by rw [IntKind.wrap_i64]; omega

  have HI5 := hide I5
  have HXX := hide hX
  have HR := hide hR
  have HD := hide h
  have HST := hide hst
  have HHM := hide hm
  have Hc := hide hc
  have Hx := hide hx
  have HdI := hide hId
  have HLEN := hide hR.len
  have HTK := hide TK
  have HME := hide hM
  clear hX hR h hst hm hc hx hId TK D2 hb2 hsh hrf p1 p2 p3 p4 hI hK hTN hH16 hH2 hQ hf hs rx hM hZP hZF hZ5 hZ hslx hM2 I5 hbg hk htn
  go_enter Tryz.func32, Tryz.ntmps32
  go_upto_region 23 with ((go_at_call 57; refine (unhide HSH _).mono ?_; rintro e w1 ⟨rfl, h1⟩; have h1 := h1.symm; subst h1))
  clear r1 r2 gs eW z1 z2 zv zvF zv5 zvP q1 q1' q2 q2' q3 q3' q4 q4' q5 q5' xh xt b0 l0
  rw [unhide HXX] at HI5 ⊢
  have HI6 := HI5
  generalize ((((w.alloc (.cells ZP 41)).alloc (.cells ZP 41)).alloc (.cells x.cells 109)).alloc (.cells ZF 125)).alloc (.cells Z5 111) = W6 at HI5 HI6 ⊢
  generalize w.heap.size + 1 + 1 + 1 + 1 = gn at HI5 HI6 ⊢
  generalize w.heap.size + 1 + 1 + 1 = gf at HI5 HI6 ⊢
  generalize w.heap.size + 1 + 1 = gx at HI5 HI6 ⊢
  have m12 : W6.cell? ⟨gx, 12, none⟩ = some (.int .i64 (c.missed : Int)) := (block_cell (unhide HI6).cx 12).trans (by rw [← unhide HXX]; exact x12)
  have m12d : W6.drew.cell? ⟨gx, 12, none⟩ = some (.int .i64 (c.missed : Int)) := m12
  have e3 : W6.cell? ⟨ge, 3, none⟩ = some (.slice (some ⟨gl, 0, none⟩) m.cids m.cids) := by have := block_cell (unhide HI6).doc.head 3; rw [unhide HLEN] at this; exact this
  have e3d : W6.drew.cell? ⟨ge, 3, none⟩ = some (.slice (some ⟨gl, 0, none⟩) m.cids m.cids) := e3
  have g12 : W6.cell? ⟨gl, I * 13 + 12, none⟩ = some (.int .i64 (x.missed : Int)) := ((unhide HI6).doc.cells (unhide HdI) (unhide Hx)).2.2.2.2.2.2.2.2.2.2.2.2
  have g12d : W6.drew.cell? ⟨gl, I * 13 + 12, none⟩ = some (.int .i64 (x.missed : Int)) := g12
  have fr := block_free (unhide HI6).doc.rows (I * 13 + 12)
  have frd : W6.drew.frozen? ⟨gl, I * 13 + 12, none⟩ = false := fr
  clear x12 d3
  go_cut [13] (fun v wx => v = .int .i64 9 ∧ InDm w ge gl (d.set I { x with missed := M }) ZP wx)
  case first =>
    go_region
    all_goals
      have HM6 := hide ((missed_put (unhide HI6) (unhide HdI) (unhide Hx) M).drew)
      go_wp2_with fail
      go_meet
      case rel => exact ⟨rfl, unhide HM6⟩
  case rest =>
    obtain ⟨rfl, IM⟩ := hcut
    have HIM := hide IM
    clear IM m12 m12d e3 e3d g12 g12d fr frd v1 v2 v2' v3
    obtain ⟨d2, hd2⟩ : ∃ d2, d2 = d.set I { x with missed := M } := ⟨_, rfl⟩
    have hn2 : d2.cs.length = m.cids := by rw [hd2]; simp only [Doc.set, List.length_set]; exact unhide HLEN
    have hm2 : (d2.at_ I).missed = M := by rw [hd2, Doc.set_at _ _ _ _ (unhide HdI), if_pos rfl]
    rw [← hd2] at HIM
    have Hd2 := hide hd2
    have Hn2 := hide hn2
    have Hm2 := hide hm2
    obtain ⟨FB, hFB⟩ : ∃ FB, FB = feedN 9 M I := ⟨_, rfl⟩
    have HFB := hide hFB
    clear hd2 hn2 hm2 hFB
    go_upto_region 24 with fail
    have FIN := hide (show ∀ W : World, InDm w ge gl d2 ZP W → DocTook m l w ge gl B (.returned (.tuple #[.agg ZP, .string (bs FB), .int .i64 9])) W by
      intro W hW
      obtain ⟨t1, t2, t3, t4⟩ := unhide HTK
      refine ⟨?_, d2, ?_, ?_, hW.doc, ?_, hW.only⟩
      · rw [t1, t2, t3, unhide HFB, unhide HZP, unhide HME]; rfl
      · rw [t4, ← unhide HME, unhide Hd2]
        exact missed_rel (unhide HHM) (unhide HR) hci (unhide Hc) (unhide Hx) M
      · rw [unhide Hd2]; exact hdc
      · rw [unhide Hd2]
        exact missed_sts (unhide HST) (unhide HD) (unhide HdI) (unhide Hx) hW.only)
    have HQ := hide (unhide HIM).drew
    go_region_held3 (fun w' => w'.cell? ⟨ge, 3, none⟩ = some (.slice (some ⟨gl, 0, none⟩) m.cids m.cids) ∧ w'.cell? ⟨gl, I * 13 + 12, none⟩ = some (.int .i64 (M : Int)) ∧ FfIn w' (w.heap.size + 1) ∧ ffOf w' (w.heap.size + 1) = ZP ∧ PkTo w' w.heap.size ∧ InDm w ge gl d2 ZP w')
      ((first
        | (exact (unhide HIM).drew.out (unhide Hn2) gP.1 hci (unhide Hm2))
        | (exact (unhide (by assumption : Hid (InDm w ge gl d2 ZP _))).out (unhide Hn2) gP.1 hci (unhide Hm2))
        | (exact ((unhide (by assumption : Hid (InDm w ge gl d2 ZP _))).putR hge hgl).out (unhide Hn2) gP.1 hci (unhide Hm2))))
      ((go_at_call 59; refine (rasks_any M I 9 _ hM3 hI8 (by omega)).mono ?_; rintro e w8 ⟨rfl, hbel⟩; rw [← unhide HFB]; have HQ8 := hide (InDm.call (unhide HIM).drew hbel)))
    all_goals go_split_ands
    all_goals (have HM9 := hide ‹InDm w ge gl d2 ZP _›)
    all_goals go_wp2_with fail
    all_goals exact ret_whole3 (cs := ZP) Tryz.results32 rfl (unhide HM9).res Tryz.underlying41 rfl (by rw [gP.1]; exact infoPk) rfl (unhide FIN _ (unhide HM9))

set_option maxRecDepth 100000 in
set_option maxHeartbeats 8000000 in
theorem dtake_10n (m : Rcv) (d : Doc) (l : List UInt8) (ge gl B : Nat) (w : World) (hm : m.ok) (hR : RelR m d) (hdc : d.cids = m.cids) (h : DocAt w ge gl d) (hst : StsIn w B d) (hB : B ≤ w.heap.size) (hl : l.length ≤ 9223372036854775807) (hs : shapedB l m.cids = true) (hk : (shapeF l).kind ≠ 3) (hgo : (shapeF l).kind = 3 ∨ ((m.at_ (shapeF l).cid).begun = true ∧ (m.at_ (shapeF l).cid).turn = (shapeF l).turn)) (hck : ¬ chk (widthN (shapeF l).kind) (madeN (m.at_ (shapeF l).cid) (shapeF l)) = (shapeF l).chk) :
    Calls Tryz.prog 32 #[.pointer (some ⟨ge, 0, none⟩), .string (bs l)] w fun e w' => DocTook m l w ge gl B e w' := by
  obtain ⟨hsh, hci⟩ := shaped_yes hs
  have hrf := readF_shape hsh
  obtain ⟨p1, p2, p3, p4⟩ := shapeF_parts l
  have s0 : 0 < (bs l).size := by rw [bs_size]; have := hsh.some_; omega
  have b0 := byte_at l 0 (by have := hsh.some_; omega) s0
  have l0 := byteN_lt l 0
  obtain ⟨I, hI⟩ : ∃ I, I = byteN l 0 / 2 % 8 := ⟨_, rfl⟩
  obtain ⟨K, hK⟩ : ∃ K, K = byteN l 0 / 64 := ⟨_, rfl⟩
  obtain ⟨TN, hTN⟩ : ∃ T, T = byteN l 0 / 16 % 4 := ⟨_, rfl⟩
  obtain ⟨H16, hH16⟩ : ∃ H, H = byteN l 0 / 16 := ⟨_, rfl⟩
  obtain ⟨H2, hH2⟩ : ∃ H, H = byteN l 0 / 2 := ⟨_, rfl⟩
  obtain ⟨Q, hQ⟩ : ∃ Q, Q = byteN l 0 := ⟨_, rfl⟩
  obtain ⟨f, hf⟩ : ∃ f, f = shapeF l := ⟨_, rfl⟩
  rw [← hf] at p1 p2 p3 hrf hk hgo hck
  rw [← hQ] at b0 l0 hI hK hTN hH16 hH2 p1 p2 p3 hci
  rw [← hI] at p2 hci
  rw [← hK] at p1
  rw [← hTN] at p3
  have K4 : K ≤ 3 := by omega
  have q1 : (Q : Int).tdiv 64 = (K : Int) := by rw [hK, Int.tdiv_eq_ediv_of_nonneg (by omega)]; omega
  have q1' : (Q : Int) / 64 = (K : Int) := by rw [hK]; omega
  have q2 : (Q : Int).tdiv 16 = (H16 : Int) := by rw [hH16, Int.tdiv_eq_ediv_of_nonneg (by omega)]; omega
  have q2' : (Q : Int) / 16 = (H16 : Int) := by rw [hH16]; omega
  have q3 : (H16 : Int).tmod 4 = (TN : Int) := by rw [hTN, hH16, Int.tmod_eq_emod_of_nonneg (by omega)]; omega
  have q3' : (H16 : Int) % 4 = (TN : Int) := by rw [hTN, hH16]; omega
  have q4 : (Q : Int).tdiv 2 = (H2 : Int) := by rw [hH2, Int.tdiv_eq_ediv_of_nonneg (by omega)]; omega
  have q4' : (Q : Int) / 2 = (H2 : Int) := by rw [hH2]; omega
  have q5 : (H2 : Int).tmod 8 = (I : Int) := by rw [hI, hH2, Int.tmod_eq_emod_of_nonneg (by omega)]; omega
  have q5' : (H2 : Int) % 8 = (I : Int) := by rw [hI, hH2]; omega
  have hI8 : I < 8 := by omega
  have hId : I < d.cs.length := by rw [hR.len]; exact hci
  rw [p2] at hgo hck
  obtain ⟨c, hc⟩ : ∃ c, m.at_ I = c := ⟨_, rfl⟩
  obtain ⟨x, hx⟩ : ∃ x, d.at_ I = x := ⟨_, rfl⟩
  rw [hc] at hgo hck
  have rx := hR.one I hci
  rw [hc, hx] at rx
  have cok : c.ok := by rw [← hc]; exact Rcv.at_ok hm I
  have hbg : c.begun = true ∧ c.turn = f.turn := by
    rcases hgo with e | e
    · exact absurd e hk
    · exact e
  have TK := take_err (m := m) (e := 10) hrf (by rw [p2]; exact hci) (by rw [p2, hc]; unfold refusalN; rw [if_neg (by rw [hbg.1]; simp), if_neg (by rw [hbg.2]; simp), if_neg (fun e => hck e.symm)]) (by decide) (by decide) hk
  rw [p2, hc] at TK

  have MD : ∀ W : World, Below w.heap.size w W → Calls Tryz.prog 58 #[.agg x.cells, .string (bs l)] W fun e w' => MadeIs W c l e w' := fun W hW => made_any x c l B W cok hsh (fun hk3 => by
    have hbg2 : c.begun = true ∧ c.turn = f.turn := by
      rcases hgo with e | e
      · exact absurd ((shapeF_parts l).1.symm.trans ((congrArg Fr.kind hf).symm.trans e)) hk3
      · exact e
    obtain ⟨r1, r2, r3, r4⟩ := rx.rt hbg2.1
    refine ⟨⟨r1, r2, r3⟩, ?_⟩
    have o := (hst I hId).1
    rw [hx] at o
    have e : x.sts = [c.st] := by rw [rx.sts, if_pos hbg2.1]
    rw [e] at o
    exact own_same o (fun q hq => by obtain ⟨cur, hcq⟩ := own_ty o hq; exact hW.block q (block_lt hcq)))
  obtain ⟨FP, hFP⟩ : ∃ FP, FP = (madeN c f).flat := ⟨_, rfl⟩
  obtain ⟨NP, hNP⟩ : ∃ NP, NP = (followN c f).st.flat := ⟨_, rfl⟩
  have gFP : GoodFf FP := by rw [hFP]; exact Pk.goodFf _
  have gNP : GoodRs NP := by rw [hNP]; exact St.goodRs _
  have HMD := hide (show ∀ W : World, Below w.heap.size w W → Calls Tryz.prog 58 #[.agg x.cells, .string (bs l)] W fun e w' => e = .returned (.tuple #[.agg FP, .agg NP, .bool false]) ∧ Below W.heap.size W w' by
    intro W hW
    refine (MD W hW).mono ?_
    rintro e w' ⟨rfl, hb⟩
    refine ⟨?_, hb⟩
    rw [← hf, ← hFP, ← hNP, decide_eq_false hck])
  have HFP := hide hFP
  have HNP := hide hNP
  clear MD hFP hNP
  rw [p1] at hk
  have kI : ¬ ((K : Int) = 3) := by omega
  have kI2 : ((K : Int) == 3) = false := beq_eq_false_iff_ne.2 kI
  have kI3 : ((K : Int) != 3) = true := bne_iff_ne.2 kI
  have tI0 : x.turn = TN := by rw [(rx.rt hbg.1).2.2.2, hbg.2, p3]
  have tI : (x.turn : Int) = (TN : Int) := by omega
  have tI3 : ((x.turn : Int) == (TN : Int)) = true := beq_iff_eq.2 tI
  have tI4 : ((x.turn : Int) != (TN : Int)) = false := by rw [bne, tI3]; rfl

  obtain ⟨ZP, hZP⟩ : ∃ ZP, ZP = zeroP.cells := ⟨_, rfl⟩
  have zvP : ∀ w, (zeroValue 41).run Tryz.prog w = .ok (.agg ZP) w := by rw [hZP]; intro w; exact Tryz.zeroValue41 w
  have gP : GoodPk ZP := by rw [hZP]; exact Pk.good zeroP
  obtain ⟨ZF, hZF⟩ : ∃ ZF : Array Value, ZF = zeroP.flat := ⟨_, rfl⟩
  have zvF : ∀ w, (zeroValue 125).run Tryz.prog w = .ok (.agg ZF) w := by rw [hZF]; intro w; exact Tryz.zeroValue125 w
  obtain ⟨Z5, hZ5⟩ : ∃ Z5 : Array Value, Z5 = St.zero.flat := ⟨_, rfl⟩
  have zv5 : ∀ w, (zeroValue 111).run Tryz.prog w = .ok (.agg Z5) w := by rw [hZ5]; intro w; exact Tryz.zeroValue111 w
  obtain ⟨Z, hZ⟩ : ∃ Z : Array Value, Z = Rc.blank.cells := ⟨_, rfl⟩
  have zv : ∀ w, (zeroValue 109).run Tryz.prog w = .ok (.agg Z) w := by rw [hZ]; intro w; exact Tryz.zeroValue109 w
  have HZP := hide hZP
  have HSH := hide (show ∀ w : World, Calls Tryz.prog 57 #[.string (bs l), .int .i64 m.cids] w fun e w' => e = .returned (.bool true) ∧ w' = w by
    intro w; have := shaped_any l m.cids w hl hm.c8; rw [hs] at this; exact this)
  have d3 : w.cell? ⟨ge, 3, none⟩ = some (.slice (some ⟨gl, 0, none⟩) m.cids m.cids) := by have := block_cell h.head 3; rw [hR.len] at this; exact this
  have hge := block_lt h.head
  have hgl := block_lt h.rows
  have hb2 : Below w.heap.size w ((w.alloc (.cells ZP 41)).alloc (.cells ZP 41)) := ((Below.refl _ _).alloc (Nat.le_refl _) _).alloc (by simp) _
  have D2 := h.keep hb2
  have r1 := D2.rcIn hId
  have r2 := D2.rcOf hId
  rw [hx] at r2
  obtain ⟨X, hX⟩ : ∃ X, X = x.cells := ⟨_, rfl⟩
  rw [← hX] at r2
  have hslx : ∃ a l c, x.sv = .slice a l c := by rw [← hx]; exact h.sl I hId
  have gs := run_storeRc_new ((w.alloc (.cells ZP 41)).alloc (.cells ZP 41)) X Z 109 (by rw [hX]; exact Rc.good_ hslx) (by rw [hZ]; rfl)
  have eW : ((w.alloc (.cells ZP 41)).alloc (.cells ZP 41)).heap.size = w.heap.size + 1 + 1 := by simp
  rw [eW] at gs
  have I5 := InDt.start h ZP ZF Z5 x
  rw [← hX] at I5
  have z1 : RcIn (((((w.alloc (.cells ZP 41)).alloc (.cells ZP 41)).alloc (.cells X 109)).alloc (.cells ZF 125)).alloc (.cells Z5 111)) (w.heap.size + 1 + 1) 0 := block_rcIn I5.cx
  have z2 : rcOf (((((w.alloc (.cells ZP 41)).alloc (.cells ZP 41)).alloc (.cells X 109)).alloc (.cells ZF 125)).alloc (.cells Z5 111)) (w.heap.size + 1 + 1) 0 = X := (block_rcOf I5.cx).trans hX.symm
  have xh : X[0]? = some (.bool true) := by rw [hX]; show some (Value.bool x.has) = _; rw [rx.has, hbg.1]
  have xt : X[4]? = some (.int .i64 (x.turn : Int)) := by rw [hX]; rfl
  have i0 : (0 : Int) ≤ (I : Int) := by omega
  have i1 : (I : Int) < (m.cids : Int) := by omega
  have wI : IntKind.i64.wrap (I : Int) = (I : Int) := by rw [IntKind.wrap_i64]; omega
  obtain ⟨M, hM⟩ : ∃ M, M = (c.missed + 1) % 256 := ⟨_, rfl⟩
  have hM2 := cok.missed
  have x12 : X[12]? = some (.int .i64 (c.missed : Int)) := by rw [hX, ← rx.missed]; rfl
  have v1 : IntKind.i64.wrap ((c.missed : Int) + 1) = (c.missed : Int) + 1 := by rw [IntKind.wrap_i64]; omega
  have v2 : ((c.missed : Int) + 1).tmod 256 = (M : Int) := by rw [hM, Int.tmod_eq_emod_of_nonneg (by omega)]; omega
  have v2' : ((c.missed : Int) + 1) % 256 = (M : Int) := by rw [hM]; omega
  have hM3 : M < 256 := by omega
  have v3 : IntKind.i64.wrap (M : Int) = (M : Int) := by rw [IntKind.wrap_i64]; omega

  have HzF := hide (show ZF.size = 8 by rw [hZF]; rfl)
  have Hz5 := hide (show Z5.size = 5 by rw [hZ5]; rfl)
  have HI5 := hide I5
  have HI5x := hide (InDt.start h ZP ZF Z5 x)
  have HXX := hide hX
  have HR := hide hR
  have HD := hide h
  have HST := hide hst
  have HHM := hide hm
  have Hc := hide hc
  have Hx := hide hx
  have HdI := hide hId
  have HLEN := hide hR.len
  have HTK := hide TK
  have HME := hide hM
  clear hX hR h hst hm hc hx hId TK D2 hb2 hsh hrf p1 p2 p3 p4 hI hK hTN hH16 hH2 hQ hf hs rx hM hZP hZF hZ5 hZ hslx hM2 I5 hbg hgo hck hk tI0
  go_enter Tryz.func32, Tryz.ntmps32
  go_upto_region 23 with (first | (go_at_call 57; refine (unhide HSH _).mono ?_; rintro e w1 ⟨rfl, h1⟩; have h1 := h1.symm; subst h1) | (go_at_call 58; rw [unhide HXX]; refine (unhide HMD _ (unhide HI5x).below).mono ?_; rintro e w7 ⟨rfl, hb7⟩; rw [← unhide HXX]; have HI7 := hide ((unhide HI5x).call hb7); have gzF : FfTo w7 (w.heap.size + 1 + 1 + 1) := ⟨_, _, (unhide HI7).fl, unhide HzF⟩; have gzN : RsIn (w7.setRow (w.heap.size + 1 + 1 + 1) FP) (w.heap.size + 1 + 1 + 1 + 1) := ⟨_, _, ((unhide HI7).putF FP).st, unhide Hz5⟩; clear hb7))
  clear r1 r2 gs eW z1 z2 zv zvF zv5 zvP HI5 HI5x gzF gzN q1 q1' q2 q2' q3 q3' q4 q4' q5 q5' xh xt b0 l0
  have HI6 := hide (((unhide HI7).putF FP).putN NP)
  rw [unhide HXX]
  generalize (w7.setRow (w.heap.size + 1 + 1 + 1) FP).setRow (w.heap.size + 1 + 1 + 1 + 1) NP = W6 at HI6 ⊢
  generalize w.heap.size + 1 + 1 + 1 + 1 = gn at HI6 ⊢
  generalize w.heap.size + 1 + 1 + 1 = gf at HI6 ⊢
  generalize w.heap.size + 1 + 1 = gx at HI6 ⊢
  have m12 : W6.cell? ⟨gx, 12, none⟩ = some (.int .i64 (c.missed : Int)) := (block_cell (unhide HI6).cx 12).trans (by rw [← unhide HXX]; exact x12)
  have m12d : W6.drew.cell? ⟨gx, 12, none⟩ = some (.int .i64 (c.missed : Int)) := m12
  have e3 : W6.cell? ⟨ge, 3, none⟩ = some (.slice (some ⟨gl, 0, none⟩) m.cids m.cids) := by have := block_cell (unhide HI6).doc.head 3; rw [unhide HLEN] at this; exact this
  have e3d : W6.drew.cell? ⟨ge, 3, none⟩ = some (.slice (some ⟨gl, 0, none⟩) m.cids m.cids) := e3
  have g12 : W6.cell? ⟨gl, I * 13 + 12, none⟩ = some (.int .i64 (x.missed : Int)) := ((unhide HI6).doc.cells (unhide HdI) (unhide Hx)).2.2.2.2.2.2.2.2.2.2.2.2
  have g12d : W6.drew.cell? ⟨gl, I * 13 + 12, none⟩ = some (.int .i64 (x.missed : Int)) := g12
  have fr := block_free (unhide HI6).doc.rows (I * 13 + 12)
  have frd : W6.drew.frozen? ⟨gl, I * 13 + 12, none⟩ = false := fr
  clear x12 d3
  go_cut [13] (fun v wx => v = .int .i64 10 ∧ InDm w ge gl (d.set I { x with missed := M }) ZP wx)
  case first =>
    go_region
    all_goals
      have HM6 := hide ((missed_put (unhide HI6) (unhide HdI) (unhide Hx) M).drew)
      go_wp2_with fail
      go_meet
      case rel => exact ⟨rfl, unhide HM6⟩
  case rest =>
    obtain ⟨rfl, IM⟩ := hcut
    have HIM := hide IM
    clear IM m12 m12d e3 e3d g12 g12d fr frd v1 v2 v2' v3
    obtain ⟨d2, hd2⟩ : ∃ d2, d2 = d.set I { x with missed := M } := ⟨_, rfl⟩
    have hn2 : d2.cs.length = m.cids := by rw [hd2]; simp only [Doc.set, List.length_set]; exact unhide HLEN
    have hm2 : (d2.at_ I).missed = M := by rw [hd2, Doc.set_at _ _ _ _ (unhide HdI), if_pos rfl]
    rw [← hd2] at HIM
    have Hd2 := hide hd2
    have Hn2 := hide hn2
    have Hm2 := hide hm2
    obtain ⟨FB, hFB⟩ : ∃ FB, FB = feedN 10 M I := ⟨_, rfl⟩
    have HFB := hide hFB
    clear hd2 hn2 hm2 hFB
    go_upto_region 24 with fail
    have FIN := hide (show ∀ W : World, InDm w ge gl d2 ZP W → DocTook m l w ge gl B (.returned (.tuple #[.agg ZP, .string (bs FB), .int .i64 10])) W by
      intro W hW
      obtain ⟨t1, t2, t3, t4⟩ := unhide HTK
      refine ⟨?_, d2, ?_, ?_, hW.doc, ?_, hW.only⟩
      · rw [t1, t2, t3, unhide HFB, unhide HZP, unhide HME]; rfl
      · rw [t4, ← unhide HME, unhide Hd2]
        exact missed_rel (unhide HHM) (unhide HR) hci (unhide Hc) (unhide Hx) M
      · rw [unhide Hd2]; exact hdc
      · rw [unhide Hd2]
        exact missed_sts (unhide HST) (unhide HD) (unhide HdI) (unhide Hx) hW.only)
    have HQ := hide (unhide HIM).drew
    go_region_held3 (fun w' => w'.cell? ⟨ge, 3, none⟩ = some (.slice (some ⟨gl, 0, none⟩) m.cids m.cids) ∧ w'.cell? ⟨gl, I * 13 + 12, none⟩ = some (.int .i64 (M : Int)) ∧ FfIn w' (w.heap.size + 1) ∧ ffOf w' (w.heap.size + 1) = ZP ∧ PkTo w' w.heap.size ∧ InDm w ge gl d2 ZP w')
      ((first
        | (exact (unhide HIM).drew.out (unhide Hn2) gP.1 hci (unhide Hm2))
        | (exact (unhide (by assumption : Hid (InDm w ge gl d2 ZP _))).out (unhide Hn2) gP.1 hci (unhide Hm2))
        | (exact ((unhide (by assumption : Hid (InDm w ge gl d2 ZP _))).putR hge hgl).out (unhide Hn2) gP.1 hci (unhide Hm2))))
      ((go_at_call 59; refine (rasks_any M I 10 _ hM3 hI8 (by omega)).mono ?_; rintro e w8 ⟨rfl, hbel⟩; rw [← unhide HFB]; have HQ8 := hide (InDm.call (unhide HIM).drew hbel)))
    all_goals go_split_ands
    all_goals (have HM9 := hide ‹InDm w ge gl d2 ZP _›)
    all_goals go_wp2_with fail
    all_goals exact ret_whole3 (cs := ZP) Tryz.results32 rfl (unhide HM9).res Tryz.underlying41 rfl (by rw [gP.1]; exact infoPk) rfl (unhide FIN _ (unhide HM9))

set_option maxRecDepth 100000 in
set_option maxHeartbeats 8000000 in
theorem dtake_10w (m : Rcv) (d : Doc) (l : List UInt8) (ge gl B : Nat) (w : World) (hm : m.ok) (hR : RelR m d) (hdc : d.cids = m.cids) (h : DocAt w ge gl d) (hst : StsIn w B d) (hB : B ≤ w.heap.size) (hl : l.length ≤ 9223372036854775807) (hs : shapedB l m.cids = true) (hk : (shapeF l).kind = 3) (hgo : (shapeF l).kind = 3 ∨ ((m.at_ (shapeF l).cid).begun = true ∧ (m.at_ (shapeF l).cid).turn = (shapeF l).turn)) (hck : ¬ chk (widthN (shapeF l).kind) (madeN (m.at_ (shapeF l).cid) (shapeF l)) = (shapeF l).chk) :
    Calls Tryz.prog 32 #[.pointer (some ⟨ge, 0, none⟩), .string (bs l)] w fun e w' => DocTook m l w ge gl B e w' := by
  obtain ⟨hsh, hci⟩ := shaped_yes hs
  have hrf := readF_shape hsh
  obtain ⟨p1, p2, p3, p4⟩ := shapeF_parts l
  have s0 : 0 < (bs l).size := by rw [bs_size]; have := hsh.some_; omega
  have b0 := byte_at l 0 (by have := hsh.some_; omega) s0
  have l0 := byteN_lt l 0
  obtain ⟨I, hI⟩ : ∃ I, I = byteN l 0 / 2 % 8 := ⟨_, rfl⟩
  obtain ⟨K, hK⟩ : ∃ K, K = byteN l 0 / 64 := ⟨_, rfl⟩
  obtain ⟨TN, hTN⟩ : ∃ T, T = byteN l 0 / 16 % 4 := ⟨_, rfl⟩
  obtain ⟨H16, hH16⟩ : ∃ H, H = byteN l 0 / 16 := ⟨_, rfl⟩
  obtain ⟨H2, hH2⟩ : ∃ H, H = byteN l 0 / 2 := ⟨_, rfl⟩
  obtain ⟨Q, hQ⟩ : ∃ Q, Q = byteN l 0 := ⟨_, rfl⟩
  obtain ⟨f, hf⟩ : ∃ f, f = shapeF l := ⟨_, rfl⟩
  rw [← hf] at p1 p2 p3 hrf hk hgo hck
  rw [← hQ] at b0 l0 hI hK hTN hH16 hH2 p1 p2 p3 hci
  rw [← hI] at p2 hci
  rw [← hK] at p1
  rw [← hTN] at p3
  have K4 : K ≤ 3 := by omega
  have q1 : (Q : Int).tdiv 64 = (K : Int) := by rw [hK, Int.tdiv_eq_ediv_of_nonneg (by omega)]; omega
  have q1' : (Q : Int) / 64 = (K : Int) := by rw [hK]; omega
  have q2 : (Q : Int).tdiv 16 = (H16 : Int) := by rw [hH16, Int.tdiv_eq_ediv_of_nonneg (by omega)]; omega
  have q2' : (Q : Int) / 16 = (H16 : Int) := by rw [hH16]; omega
  have q3 : (H16 : Int).tmod 4 = (TN : Int) := by rw [hTN, hH16, Int.tmod_eq_emod_of_nonneg (by omega)]; omega
  have q3' : (H16 : Int) % 4 = (TN : Int) := by rw [hTN, hH16]; omega
  have q4 : (Q : Int).tdiv 2 = (H2 : Int) := by rw [hH2, Int.tdiv_eq_ediv_of_nonneg (by omega)]; omega
  have q4' : (Q : Int) / 2 = (H2 : Int) := by rw [hH2]; omega
  have q5 : (H2 : Int).tmod 8 = (I : Int) := by rw [hI, hH2, Int.tmod_eq_emod_of_nonneg (by omega)]; omega
  have q5' : (H2 : Int) % 8 = (I : Int) := by rw [hI, hH2]; omega
  have hI8 : I < 8 := by omega
  have hId : I < d.cs.length := by rw [hR.len]; exact hci
  rw [p2] at hgo hck
  obtain ⟨c, hc⟩ : ∃ c, m.at_ I = c := ⟨_, rfl⟩
  obtain ⟨x, hx⟩ : ∃ x, d.at_ I = x := ⟨_, rfl⟩
  rw [hc] at hgo hck
  have rx := hR.one I hci
  rw [hc, hx] at rx
  have cok : c.ok := by rw [← hc]; exact Rcv.at_ok hm I
  have TK := take_errw (m := m) (e := 10) hrf (by rw [p2]; exact hci) (by rw [p2, hc]; unfold refusalN; rw [if_neg (fun e => e.1 hk), if_neg (fun e => e.1 hk), if_neg (fun e => hck e.symm)]) (by decide) (by decide) hk

  have MD : ∀ W : World, Below w.heap.size w W → Calls Tryz.prog 58 #[.agg x.cells, .string (bs l)] W fun e w' => MadeIs W c l e w' := fun W hW => made_any x c l B W cok hsh (fun hk3 => by
    have hbg2 : c.begun = true ∧ c.turn = f.turn := by
      rcases hgo with e | e
      · exact absurd ((shapeF_parts l).1.symm.trans ((congrArg Fr.kind hf).symm.trans e)) hk3
      · exact e
    obtain ⟨r1, r2, r3, r4⟩ := rx.rt hbg2.1
    refine ⟨⟨r1, r2, r3⟩, ?_⟩
    have o := (hst I hId).1
    rw [hx] at o
    have e : x.sts = [c.st] := by rw [rx.sts, if_pos hbg2.1]
    rw [e] at o
    exact own_same o (fun q hq => by obtain ⟨cur, hcq⟩ := own_ty o hq; exact hW.block q (block_lt hcq)))
  obtain ⟨FP, hFP⟩ : ∃ FP, FP = (madeN c f).flat := ⟨_, rfl⟩
  obtain ⟨NP, hNP⟩ : ∃ NP, NP = (followN c f).st.flat := ⟨_, rfl⟩
  have gFP : GoodFf FP := by rw [hFP]; exact Pk.goodFf _
  have gNP : GoodRs NP := by rw [hNP]; exact St.goodRs _
  have HMD := hide (show ∀ W : World, Below w.heap.size w W → Calls Tryz.prog 58 #[.agg x.cells, .string (bs l)] W fun e w' => e = .returned (.tuple #[.agg FP, .agg NP, .bool false]) ∧ Below W.heap.size W w' by
    intro W hW
    refine (MD W hW).mono ?_
    rintro e w' ⟨rfl, hb⟩
    refine ⟨?_, hb⟩
    rw [← hf, ← hFP, ← hNP, decide_eq_false hck])
  have HFP := hide hFP
  have HNP := hide hNP
  clear MD hFP hNP
  rw [p1] at hk
  have kI : (K : Int) = 3 := by omega
  have kI2 : ((K : Int) == 3) = true := beq_iff_eq.2 kI
  have kI3 : ((K : Int) != 3) = false := by rw [bne, kI2]; rfl

  obtain ⟨ZP, hZP⟩ : ∃ ZP, ZP = zeroP.cells := ⟨_, rfl⟩
  have zvP : ∀ w, (zeroValue 41).run Tryz.prog w = .ok (.agg ZP) w := by rw [hZP]; intro w; exact Tryz.zeroValue41 w
  have gP : GoodPk ZP := by rw [hZP]; exact Pk.good zeroP
  obtain ⟨ZF, hZF⟩ : ∃ ZF : Array Value, ZF = zeroP.flat := ⟨_, rfl⟩
  have zvF : ∀ w, (zeroValue 125).run Tryz.prog w = .ok (.agg ZF) w := by rw [hZF]; intro w; exact Tryz.zeroValue125 w
  obtain ⟨Z5, hZ5⟩ : ∃ Z5 : Array Value, Z5 = St.zero.flat := ⟨_, rfl⟩
  have zv5 : ∀ w, (zeroValue 111).run Tryz.prog w = .ok (.agg Z5) w := by rw [hZ5]; intro w; exact Tryz.zeroValue111 w
  obtain ⟨Z, hZ⟩ : ∃ Z : Array Value, Z = Rc.blank.cells := ⟨_, rfl⟩
  have zv : ∀ w, (zeroValue 109).run Tryz.prog w = .ok (.agg Z) w := by rw [hZ]; intro w; exact Tryz.zeroValue109 w
  have HZP := hide hZP
  have HSH := hide (show ∀ w : World, Calls Tryz.prog 57 #[.string (bs l), .int .i64 m.cids] w fun e w' => e = .returned (.bool true) ∧ w' = w by
    intro w; have := shaped_any l m.cids w hl hm.c8; rw [hs] at this; exact this)
  have d3 : w.cell? ⟨ge, 3, none⟩ = some (.slice (some ⟨gl, 0, none⟩) m.cids m.cids) := by have := block_cell h.head 3; rw [hR.len] at this; exact this
  have hge := block_lt h.head
  have hgl := block_lt h.rows
  have hb2 : Below w.heap.size w ((w.alloc (.cells ZP 41)).alloc (.cells ZP 41)) := ((Below.refl _ _).alloc (Nat.le_refl _) _).alloc (by simp) _
  have D2 := h.keep hb2
  have r1 := D2.rcIn hId
  have r2 := D2.rcOf hId
  rw [hx] at r2
  obtain ⟨X, hX⟩ : ∃ X, X = x.cells := ⟨_, rfl⟩
  rw [← hX] at r2
  have hslx : ∃ a l c, x.sv = .slice a l c := by rw [← hx]; exact h.sl I hId
  have gs := run_storeRc_new ((w.alloc (.cells ZP 41)).alloc (.cells ZP 41)) X Z 109 (by rw [hX]; exact Rc.good_ hslx) (by rw [hZ]; rfl)
  have eW : ((w.alloc (.cells ZP 41)).alloc (.cells ZP 41)).heap.size = w.heap.size + 1 + 1 := by simp
  rw [eW] at gs
  have I5 := InDt.start h ZP ZF Z5 x
  rw [← hX] at I5
  have z1 : RcIn (((((w.alloc (.cells ZP 41)).alloc (.cells ZP 41)).alloc (.cells X 109)).alloc (.cells ZF 125)).alloc (.cells Z5 111)) (w.heap.size + 1 + 1) 0 := block_rcIn I5.cx
  have z2 : rcOf (((((w.alloc (.cells ZP 41)).alloc (.cells ZP 41)).alloc (.cells X 109)).alloc (.cells ZF 125)).alloc (.cells Z5 111)) (w.heap.size + 1 + 1) 0 = X := (block_rcOf I5.cx).trans hX.symm
  have xh : X[0]? = some (.bool x.has) := by rw [hX]; rfl
  have xt : X[4]? = some (.int .i64 (x.turn : Int)) := by rw [hX]; rfl
  have i0 : (0 : Int) ≤ (I : Int) := by omega
  have i1 : (I : Int) < (m.cids : Int) := by omega
  have wI : IntKind.i64.wrap (I : Int) = (I : Int) := by rw [IntKind.wrap_i64]; omega
  obtain ⟨M, hM⟩ : ∃ M, M = (c.missed + 1) % 256 := ⟨_, rfl⟩
  have hM2 := cok.missed
  have x12 : X[12]? = some (.int .i64 (c.missed : Int)) := by rw [hX, ← rx.missed]; rfl
  have v1 : IntKind.i64.wrap ((c.missed : Int) + 1) = (c.missed : Int) + 1 := by rw [IntKind.wrap_i64]; omega
  have v2 : ((c.missed : Int) + 1).tmod 256 = (M : Int) := by rw [hM, Int.tmod_eq_emod_of_nonneg (by omega)]; omega
  have v2' : ((c.missed : Int) + 1) % 256 = (M : Int) := by rw [hM]; omega
  have hM3 : M < 256 := by omega
  have v3 : IntKind.i64.wrap (M : Int) = (M : Int) := by rw [IntKind.wrap_i64]; omega

  have HzF := hide (show ZF.size = 8 by rw [hZF]; rfl)
  have Hz5 := hide (show Z5.size = 5 by rw [hZ5]; rfl)
  have HI5 := hide I5
  have HI5x := hide (InDt.start h ZP ZF Z5 x)
  have HXX := hide hX
  have HR := hide hR
  have HD := hide h
  have HST := hide hst
  have HHM := hide hm
  have Hc := hide hc
  have Hx := hide hx
  have HdI := hide hId
  have HLEN := hide hR.len
  have HTK := hide TK
  clear hX hR h hst hm hc hx hId TK D2 hb2 hsh hrf p1 p2 p3 p4 hI hK hTN hH16 hH2 hQ hf hs rx hM hZP hZF hZ5 hZ hslx hM2 I5 hgo hck hk
  go_enter Tryz.func32, Tryz.ntmps32
  go_wp2_with (first | (go_at_call 57; refine (unhide HSH _).mono ?_; rintro e w1 ⟨rfl, h1⟩; have h1 := h1.symm; subst h1) | (go_at_call 58; rw [unhide HXX]; refine (unhide HMD _ (unhide HI5x).below).mono ?_; rintro e w7 ⟨rfl, hb7⟩; rw [← unhide HXX]; have HI7 := hide ((unhide HI5x).call hb7); have gzF : FfTo w7 (w.heap.size + 1 + 1 + 1) := ⟨_, _, (unhide HI7).fl, unhide HzF⟩; have gzN : RsIn (w7.setRow (w.heap.size + 1 + 1 + 1) FP) (w.heap.size + 1 + 1 + 1 + 1) := ⟨_, _, ((unhide HI7).putF FP).st, unhide Hz5⟩; have I8 := ((unhide HI7).putF FP).putN NP; have y1 : FfIn ((w7.setRow (w.heap.size + 1 + 1 + 1) FP).setRow (w.heap.size + 1 + 1 + 1 + 1) NP) (w.heap.size + 1) := ⟨_, _, _, I8.non, gP.1⟩; have y2 : ffOf ((w7.setRow (w.heap.size + 1 + 1 + 1) FP).setRow (w.heap.size + 1 + 1 + 1 + 1) NP) (w.heap.size + 1) = ZP := (by unfold ffOf; rw [I8.non]); have y3 : PkTo ((w7.setRow (w.heap.size + 1 + 1 + 1) FP).setRow (w.heap.size + 1 + 1 + 1 + 1) NP) w.heap.size := ⟨_, _, I8.res, gP.1⟩; have HI8 := hide I8; clear hb7 I8))
  have hb9 : Below w.heap.size w (((w7.setRow (w.heap.size + 1 + 1 + 1) FP).setRow (w.heap.size + 1 + 1 + 1 + 1) NP).setRow w.heap.size ZP) := below_setRow (unhide HI8).below (Nat.le_refl _) _
  have fin : DocTook m l w ge gl B (.returned (.tuple #[.agg ZP, .string (bs []), .int .i64 10])) (((w7.setRow (w.heap.size + 1 + 1 + 1) FP).setRow (w.heap.size + 1 + 1 + 1 + 1) NP).setRow w.heap.size ZP) := by
    obtain ⟨t1, t2, t3, t4⟩ := unhide HTK
    refine ⟨by rw [t1, t2, t3, unhide HZP]; rfl, d, by rw [t4]; exact unhide HR, hdc, (unhide HD).keep hb9, StsIn.same (unhide HST) (fun q cs hq => hb9.block q (block_lt hq)), Only.of_below hb9⟩
  exact ret_whole3 (cs := ZP) Tryz.results32 rfl (setRow_heap _ _ _ _ _ _ (unhide HI8).res) Tryz.underlying41 rfl (by rw [gP.1]; exact infoPk) rfl fin

set_option maxRecDepth 100000 in
set_option maxHeartbeats 8000000 in
theorem dtake_0w (m : Rcv) (d : Doc) (l : List UInt8) (ge gl B : Nat) (w : World) (hm : m.ok) (hR : RelR m d) (hdc : d.cids = m.cids) (h : DocAt w ge gl d) (hst : StsIn w B d) (hB : B ≤ w.heap.size) (hl : l.length ≤ 9223372036854775807) (hs : shapedB l m.cids = true) (hk : (shapeF l).kind = 3) (hgo : (shapeF l).kind = 3 ∨ ((m.at_ (shapeF l).cid).begun = true ∧ (m.at_ (shapeF l).cid).turn = (shapeF l).turn)) (hck : chk (widthN (shapeF l).kind) (madeN (m.at_ (shapeF l).cid) (shapeF l)) = (shapeF l).chk) :
    Calls Tryz.prog 32 #[.pointer (some ⟨ge, 0, none⟩), .string (bs l)] w fun e w' => DocTook m l w ge gl B e w' := by
  obtain ⟨hsh, hci⟩ := shaped_yes hs
  have hrf := readF_shape hsh
  obtain ⟨p1, p2, p3, p4⟩ := shapeF_parts l
  have s0 : 0 < (bs l).size := by rw [bs_size]; have := hsh.some_; omega
  have b0 := byte_at l 0 (by have := hsh.some_; omega) s0
  have l0 := byteN_lt l 0
  obtain ⟨I, hI⟩ : ∃ I, I = byteN l 0 / 2 % 8 := ⟨_, rfl⟩
  obtain ⟨K, hK⟩ : ∃ K, K = byteN l 0 / 64 := ⟨_, rfl⟩
  obtain ⟨TN, hTN⟩ : ∃ T, T = byteN l 0 / 16 % 4 := ⟨_, rfl⟩
  obtain ⟨H16, hH16⟩ : ∃ H, H = byteN l 0 / 16 := ⟨_, rfl⟩
  obtain ⟨H2, hH2⟩ : ∃ H, H = byteN l 0 / 2 := ⟨_, rfl⟩
  obtain ⟨Q, hQ⟩ : ∃ Q, Q = byteN l 0 := ⟨_, rfl⟩
  obtain ⟨f, hf⟩ : ∃ f, f = shapeF l := ⟨_, rfl⟩
  rw [← hf] at p1 p2 p3 hrf hk hgo hck
  rw [← hQ] at b0 l0 hI hK hTN hH16 hH2 p1 p2 p3 hci
  rw [← hI] at p2 hci
  rw [← hK] at p1
  rw [← hTN] at p3
  have K4 : K ≤ 3 := by omega
  have q1 : (Q : Int).tdiv 64 = (K : Int) := by rw [hK, Int.tdiv_eq_ediv_of_nonneg (by omega)]; omega
  have q1' : (Q : Int) / 64 = (K : Int) := by rw [hK]; omega
  have q2 : (Q : Int).tdiv 16 = (H16 : Int) := by rw [hH16, Int.tdiv_eq_ediv_of_nonneg (by omega)]; omega
  have q2' : (Q : Int) / 16 = (H16 : Int) := by rw [hH16]; omega
  have q3 : (H16 : Int).tmod 4 = (TN : Int) := by rw [hTN, hH16, Int.tmod_eq_emod_of_nonneg (by omega)]; omega
  have q3' : (H16 : Int) % 4 = (TN : Int) := by rw [hTN, hH16]; omega
  have q4 : (Q : Int).tdiv 2 = (H2 : Int) := by rw [hH2, Int.tdiv_eq_ediv_of_nonneg (by omega)]; omega
  have q4' : (Q : Int) / 2 = (H2 : Int) := by rw [hH2]; omega
  have q5 : (H2 : Int).tmod 8 = (I : Int) := by rw [hI, hH2, Int.tmod_eq_emod_of_nonneg (by omega)]; omega
  have q5' : (H2 : Int) % 8 = (I : Int) := by rw [hI, hH2]; omega
  have hI8 : I < 8 := by omega
  have hId : I < d.cs.length := by rw [hR.len]; exact hci
  rw [p2] at hgo hck
  obtain ⟨c, hc⟩ : ∃ c, m.at_ I = c := ⟨_, rfl⟩
  obtain ⟨x, hx⟩ : ∃ x, d.at_ I = x := ⟨_, rfl⟩
  rw [hc] at hgo hck
  have rx := hR.one I hci
  rw [hc, hx] at rx
  have cok : c.ok := by rw [← hc]; exact Rcv.at_ok hm I
  have TK := take_ok0 (m := m) hrf (by rw [p2]; exact hci) (by
    rw [p2, hc]
    unfold refusalN
    rcases hgo with e | e
    · rw [if_neg (fun h => h.1 e), if_neg (fun h => h.1 e), if_pos hck.symm]
    · rw [if_neg (by rw [e.1]; simp), if_neg (by rw [e.2]; simp), if_pos hck.symm])
  rw [p2, hc] at TK

  have MD : ∀ W : World, Below w.heap.size w W → Calls Tryz.prog 58 #[.agg x.cells, .string (bs l)] W fun e w' => MadeIs W c l e w' := fun W hW => made_any x c l B W cok hsh (fun hk3 => by
    have hbg2 : c.begun = true ∧ c.turn = f.turn := by
      rcases hgo with e | e
      · exact absurd ((shapeF_parts l).1.symm.trans ((congrArg Fr.kind hf).symm.trans e)) hk3
      · exact e
    obtain ⟨r1, r2, r3, r4⟩ := rx.rt hbg2.1
    refine ⟨⟨r1, r2, r3⟩, ?_⟩
    have o := (hst I hId).1
    rw [hx] at o
    have e : x.sts = [c.st] := by rw [rx.sts, if_pos hbg2.1]
    rw [e] at o
    exact own_same o (fun q hq => by obtain ⟨cur, hcq⟩ := own_ty o hq; exact hW.block q (block_lt hcq)))
  obtain ⟨FP, hFP⟩ : ∃ FP, FP = (madeN c f).flat := ⟨_, rfl⟩
  obtain ⟨NP, hNP⟩ : ∃ NP, NP = (followN c f).st.flat := ⟨_, rfl⟩
  have gFP : GoodFf FP := by rw [hFP]; exact Pk.goodFf _
  have gNP : GoodRs NP := by rw [hNP]; exact St.goodRs _
  have HMD := hide (show ∀ W : World, Below w.heap.size w W → Calls Tryz.prog 58 #[.agg x.cells, .string (bs l)] W fun e w' => e = .returned (.tuple #[.agg FP, .agg NP, .bool true]) ∧ Below W.heap.size W w' by
    intro W hW
    refine (MD W hW).mono ?_
    rintro e w' ⟨rfl, hb⟩
    refine ⟨?_, hb⟩
    rw [← hf, ← hFP, ← hNP, decide_eq_true hck])
  have HFP := hide hFP
  have HNP := hide hNP
  clear MD hFP hNP
  obtain ⟨P, hP⟩ : ∃ P, P = madeN c f := ⟨_, rfl⟩
  obtain ⟨n, hn⟩ : ∃ n, n = (followN c f).st := ⟨_, rfl⟩
  have hPok : P.ok := by rw [hP]; exact madeN_ok cok (readF_ok hrf).1
  have hrel : ∀ v, RelX (followN c f) (Rc.took P TN v n) := fun v => ⟨rfl, fun _ => ⟨by rw [hP]; rfl, by rw [hP]; rfl, by rw [hP]; rfl, by show TN = f.turn; rw [p3]⟩, by rw [hn]; rfl, rfl, rfl, by show TN < 4; omega⟩
  have HREL := hide hrel
  have HPo := hide hPok
  have HFP2 := hide (show FP = P.flat by rw [hP]; exact unhide HFP)
  have HNP2 := hide (show NP = n.flat by rw [hn]; exact unhide HNP)
  rw [← hP] at TK
  clear hrel hPok hP hn
  rw [p1] at hk
  have kI : (K : Int) = 3 := by omega
  have kI2 : ((K : Int) == 3) = true := beq_iff_eq.2 kI
  have kI3 : ((K : Int) != 3) = false := by rw [bne, kI2]; rfl

  obtain ⟨ZP, hZP⟩ : ∃ ZP, ZP = zeroP.cells := ⟨_, rfl⟩
  have zvP : ∀ w, (zeroValue 41).run Tryz.prog w = .ok (.agg ZP) w := by rw [hZP]; intro w; exact Tryz.zeroValue41 w
  have gP : GoodPk ZP := by rw [hZP]; exact Pk.good zeroP
  obtain ⟨ZF, hZF⟩ : ∃ ZF : Array Value, ZF = zeroP.flat := ⟨_, rfl⟩
  have zvF : ∀ w, (zeroValue 125).run Tryz.prog w = .ok (.agg ZF) w := by rw [hZF]; intro w; exact Tryz.zeroValue125 w
  obtain ⟨Z5, hZ5⟩ : ∃ Z5 : Array Value, Z5 = St.zero.flat := ⟨_, rfl⟩
  have zv5 : ∀ w, (zeroValue 111).run Tryz.prog w = .ok (.agg Z5) w := by rw [hZ5]; intro w; exact Tryz.zeroValue111 w
  obtain ⟨Z, hZ⟩ : ∃ Z : Array Value, Z = Rc.blank.cells := ⟨_, rfl⟩
  have zv : ∀ w, (zeroValue 109).run Tryz.prog w = .ok (.agg Z) w := by rw [hZ]; intro w; exact Tryz.zeroValue109 w
  have HZP := hide hZP
  have HSH := hide (show ∀ w : World, Calls Tryz.prog 57 #[.string (bs l), .int .i64 m.cids] w fun e w' => e = .returned (.bool true) ∧ w' = w by
    intro w; have := shaped_any l m.cids w hl hm.c8; rw [hs] at this; exact this)
  have d3 : w.cell? ⟨ge, 3, none⟩ = some (.slice (some ⟨gl, 0, none⟩) m.cids m.cids) := by have := block_cell h.head 3; rw [hR.len] at this; exact this
  have hge := block_lt h.head
  have hgl := block_lt h.rows
  have hb2 : Below w.heap.size w ((w.alloc (.cells ZP 41)).alloc (.cells ZP 41)) := ((Below.refl _ _).alloc (Nat.le_refl _) _).alloc (by simp) _
  have D2 := h.keep hb2
  have r1 := D2.rcIn hId
  have r2 := D2.rcOf hId
  rw [hx] at r2
  obtain ⟨X, hX⟩ : ∃ X, X = x.cells := ⟨_, rfl⟩
  rw [← hX] at r2
  have hslx : ∃ a l c, x.sv = .slice a l c := by rw [← hx]; exact h.sl I hId
  have gs := run_storeRc_new ((w.alloc (.cells ZP 41)).alloc (.cells ZP 41)) X Z 109 (by rw [hX]; exact Rc.good_ hslx) (by rw [hZ]; rfl)
  have eW : ((w.alloc (.cells ZP 41)).alloc (.cells ZP 41)).heap.size = w.heap.size + 1 + 1 := by simp
  rw [eW] at gs
  have I5 := InDt.start h ZP ZF Z5 x
  rw [← hX] at I5
  have z1 : RcIn (((((w.alloc (.cells ZP 41)).alloc (.cells ZP 41)).alloc (.cells X 109)).alloc (.cells ZF 125)).alloc (.cells Z5 111)) (w.heap.size + 1 + 1) 0 := block_rcIn I5.cx
  have z2 : rcOf (((((w.alloc (.cells ZP 41)).alloc (.cells ZP 41)).alloc (.cells X 109)).alloc (.cells ZF 125)).alloc (.cells Z5 111)) (w.heap.size + 1 + 1) 0 = X := (block_rcOf I5.cx).trans hX.symm
  have xh : X[0]? = some (.bool x.has) := by rw [hX]; rfl
  have xt : X[4]? = some (.int .i64 (x.turn : Int)) := by rw [hX]; rfl
  have i0 : (0 : Int) ≤ (I : Int) := by omega
  have i1 : (I : Int) < (m.cids : Int) := by omega
  have wI : IntKind.i64.wrap (I : Int) = (I : Int) := by rw [IntKind.wrap_i64]; omega
  obtain ⟨M, hM⟩ : ∃ M, M = (c.missed + 1) % 256 := ⟨_, rfl⟩
  have hM2 := cok.missed
  have x12 : X[12]? = some (.int .i64 (c.missed : Int)) := by rw [hX, ← rx.missed]; rfl
  have v1 : IntKind.i64.wrap ((c.missed : Int) + 1) = (c.missed : Int) + 1 := by rw [IntKind.wrap_i64]; omega
  have v2 : ((c.missed : Int) + 1).tmod 256 = (M : Int) := by rw [hM, Int.tmod_eq_emod_of_nonneg (by omega)]; omega
  have v2' : ((c.missed : Int) + 1) % 256 = (M : Int) := by rw [hM]; omega
  have hM3 : M < 256 := by omega
  have v3 : IntKind.i64.wrap (M : Int) = (M : Int) := by rw [IntKind.wrap_i64]; omega

  have HzF := hide (show ZF.size = 8 by rw [hZF]; rfl)
  have Hz5 := hide (show Z5.size = 5 by rw [hZ5]; rfl)
  have HI5 := hide I5
  have HI5x := hide (InDt.start h ZP ZF Z5 x)
  have HXX := hide hX
  have HR := hide hR
  have HD := hide h
  have HST := hide hst
  have HHM := hide hm
  have Hc := hide hc
  have Hx := hide hx
  have HdI := hide hId
  have HLEN := hide hR.len
  have HTK := hide TK
  clear hX hR h hst hm hc hx hId TK D2 hb2 hsh hrf p1 p2 p3 p4 hI hK hTN hH16 hH2 hQ hf hs rx hM hZP hZF hZ5 hZ hslx hM2 I5 hgo hck hk
  go_enter Tryz.func32, Tryz.ntmps32
  go_upto_region 25 with (first | (go_at_call 57; refine (unhide HSH _).mono ?_; rintro e w1 ⟨rfl, h1⟩; have h1 := h1.symm; subst h1) | (go_at_call 58; rw [unhide HXX]; refine (unhide HMD _ (unhide HI5x).below).mono ?_; rintro e w7 ⟨rfl, hb7⟩; rw [← unhide HXX]; have HI7 := hide ((unhide HI5x).call hb7); have gzF : FfTo w7 (w.heap.size + 1 + 1 + 1) := ⟨_, _, (unhide HI7).fl, unhide HzF⟩; have gzN : RsIn (w7.setRow (w.heap.size + 1 + 1 + 1) FP) (w.heap.size + 1 + 1 + 1 + 1) := ⟨_, _, ((unhide HI7).putF FP).st, unhide Hz5⟩; clear hb7))
  have HI6 := hide (((unhide HI7).putF FP).putN NP)
  clear r1 r2 gs eW z1 z2 zv zvF zv5 zvP HI5 HI5x gzF gzN q1 q1' q2 q2' q3 q3' q4 q4' q5 q5' xh xt b0 l0 d3 HI7
  rw [unhide HXX]
  generalize (w7.setRow (w.heap.size + 1 + 1 + 1) FP).setRow (w.heap.size + 1 + 1 + 1 + 1) NP = W6 at HI6 ⊢
  generalize w.heap.size + 1 + 1 + 1 + 1 = gn at HI6 ⊢
  generalize w.heap.size + 1 + 1 + 1 = gf at HI6 ⊢
  generalize w.heap.size + 1 + 1 = gx at HI6 ⊢
  have e3 : W6.cell? ⟨ge, 3, none⟩ = some (.slice (some ⟨gl, 0, none⟩) m.cids m.cids) := by have := block_cell (unhide HI6).doc.head 3; rw [unhide HLEN] at this; exact this
  have a0 : W6.cell? ⟨gf, 0, none⟩ = some (.int .u32 (P.src : Int)) := by rw [block_cell (unhide HI6).fl, unhide HFP2]; rfl
  have a1 : W6.cell? ⟨gf, 1, none⟩ = some (.int .u32 (P.dst : Int)) := by rw [block_cell (unhide HI6).fl, unhide HFP2]; rfl
  have a2 : W6.cell? ⟨gf, 2, none⟩ = some (.int .u16 (P.port : Int)) := by rw [block_cell (unhide HI6).fl, unhide HFP2]; rfl
  have n0 : W6.cell? ⟨gn, 0, none⟩ = some (.int .i64 (n.seq : Int)) := by rw [block_cell (unhide HI6).st, unhide HNP2]; rfl
  have n1 : W6.cell? ⟨gn, 1, none⟩ = some (.int .i64 (n.stride : Int)) := by rw [block_cell (unhide HI6).st, unhide HNP2]; rfl
  have n2 : W6.cell? ⟨gn, 2, none⟩ = some (.int .i64 (n.offset : Int)) := by rw [block_cell (unhide HI6).st, unhide HNP2]; rfl
  have n3 : W6.cell? ⟨gn, 3, none⟩ = some (.int .i64 (n.lag : Int)) := by rw [block_cell (unhide HI6).st, unhide HNP2]; rfl
  have n4 : W6.cell? ⟨gn, 4, none⟩ = some (.int .i64 (n.flags : Int)) := by rw [block_cell (unhide HI6).st, unhide HNP2]; rfl
  have e3d : W6.drew.cell? ⟨ge, 3, none⟩ = some (.slice (some ⟨gl, 0, none⟩) m.cids m.cids) := e3
  have a0d : W6.drew.cell? ⟨gf, 0, none⟩ = some (.int .u32 (P.src : Int)) := a0
  have a1d : W6.drew.cell? ⟨gf, 1, none⟩ = some (.int .u32 (P.dst : Int)) := a1
  have a2d : W6.drew.cell? ⟨gf, 2, none⟩ = some (.int .u16 (P.port : Int)) := a2
  have n0d : W6.drew.cell? ⟨gn, 0, none⟩ = some (.int .i64 (n.seq : Int)) := n0
  have n1d : W6.drew.cell? ⟨gn, 1, none⟩ = some (.int .i64 (n.stride : Int)) := n1
  have n2d : W6.drew.cell? ⟨gn, 2, none⟩ = some (.int .i64 (n.offset : Int)) := n2
  have n3d : W6.drew.cell? ⟨gn, 3, none⟩ = some (.int .i64 (n.lag : Int)) := n3
  have n4d : W6.drew.cell? ⟨gn, 4, none⟩ = some (.int .i64 (n.flags : Int)) := n4
  have lge : ge < W6.heap.size := block_lt (unhide HI6).doc.head
  have lgf : gf < W6.heap.size := block_lt (unhide HI6).fl
  have lgn : gn < W6.heap.size := block_lt (unhide HI6).st
  have lgl : gl < W6.heap.size := block_lt (unhide HI6).doc.rows
  have to1 : ∀ O, RcTo (W6.drew.alloc O) gl (I * 13) := fun O => DocAt.rcTo (g := ge) (gl := gl) (d := d) ⟨block_alloc (show W6.drew.heap[ge]? = _ from (unhide HI6).doc.head) O, block_alloc (show W6.drew.heap[gl]? = _ from (unhide HI6).doc.rows) O, (unhide HI6).doc.sl⟩ (unhide HdI)
  have to2 : ∀ O, RcTo (W6.alloc O).drew gl (I * 13) := fun O => to1 O
  go_cut [11] (fun v wx => v = .int .i64 (I : Nat) ∧ ∃ sv, InDz w ge gl (d.set I (Rc.took P TN sv n)) gf FP sv n wx)
  case first =>
    go_region
    all_goals
      have HZ6 := hide (took_put gP.1 ((unhide HI6).call (Below.refl _ _).drew) (unhide HdI) P TN n)
      go_wp2_with fail
      go_meet
      case rel => exact ⟨rfl, _, unhide HZ6⟩
  case rest =>
    obtain ⟨rfl, sv, IZ⟩ := hcut
    clear e3 a0 a1 a2 n0 n1 n2 n3 n4 e3d a0d a1d a2d n0d n1d n2d n3d n4d to1 to2 HI6
    have y1 : FfIn wc gf := ⟨_, _, _, IZ.fl, gFP.1⟩
    have y2 : ffOf wc gf = FP := by unfold ffOf; rw [IZ.fl]
    have HIZ := hide IZ
    obtain ⟨PC, hPC⟩ : ∃ PC, PC = P.cells := ⟨_, rfl⟩
    have gPC : GoodPk PC := by rw [hPC]; exact Pk.good P
    have HPC := hide hPC
    clear IZ hPC
    go_wp2_with (go_at_call 60; rw [unhide HFP2]; refine (packet_any P _ (unhide HPo)).mono ?_; rintro e w9 ⟨rfl, hb9⟩; rw [← unhide HFP2, ← unhide HPC]; have HB9 := hide hb9; have pkr : PkTo w9 w.heap.size := (by obtain ⟨cs, t, h1, h2⟩ := (unhide HIZ).res; exact ⟨cs, t, block_keep h1 hb9, h2⟩); clear hb9)
    have hbz : Below wc.heap.size wc w9 := unhide HB9
    obtain ⟨cs, t, hres, hcs⟩ := pkr
    have onl : Only (· = gl) w (w9.setRow w.heap.size PC) := ((unhide HIZ).only.trans (Only.of_below hbz)).new (Nat.le_refl _) _
    have own9 : (w9.setRow w.heap.size PC).ownsRow w.heap.size 111 5 sv 1 (scells [n]) := by
      refine own_same (unhide HIZ).own (fun q hq => ?_)
      obtain ⟨cur, hcq⟩ := own_ty (unhide HIZ).own hq
      obtain ⟨cs1, t1, hr1, _⟩ := (unhide HIZ).res
      have hne : q ≠ w.heap.size := by
        intro e
        have h9 := hres
        rw [← e, hbz.block q (block_lt hcq), hcq] at h9
        simp at h9
        have := congrArg Array.size h9.1
        rcases (unhide HIZ).own.2 with ⟨e1, _⟩ | ⟨g2, cap, cur2, e1, _, e2, e3, _, e4, _⟩
        · rw [e1] at hq; simp [Value.ownBlock] at hq
        · rw [e1] at hq
          simp [Value.ownBlock] at hq
          subst hq
          rw [e2] at hcq
          simp at hcq
          rw [← hcq] at this
          omega
      rw [setRow_other _ _ _ _ hne]
      exact hbz.block q (block_lt hcq)
    have fin : DocTook m l w ge gl B (.returned (.tuple #[.agg PC, .string (bs []), .int .i64 0])) (w9.setRow w.heap.size PC) := by
      obtain ⟨t1, t2, t3, t4⟩ := unhide HTK
      refine ⟨by rw [t1, t2, t3, unhide HPC]; rfl, _, ?_, ?_, ?_, took_sts (p := P) (t := TN) (unhide HST) (unhide HD) (unhide HdI) onl hB own9, onl⟩
      · rw [t4]
        exact (unhide HR).put (unhide HHM) hci (unhide HREL sv)
      · exact hdc
      · have D9 := (unhide HIZ).doc.keep hbz
        exact ⟨by rw [setRow_other _ _ _ _ (by omega)]; exact D9.head, by rw [setRow_other _ _ _ _ (by omega)]; exact D9.rows, D9.sl⟩
    exact ret_whole3 (cs := PC) Tryz.results32 rfl (setRow_heap _ _ _ _ _ _ hres) Tryz.underlying41 rfl (by rw [gPC.1]; exact infoPk) rfl fin

set_option maxRecDepth 100000 in
set_option maxHeartbeats 8000000 in
theorem dtake_0n (m : Rcv) (d : Doc) (l : List UInt8) (ge gl B : Nat) (w : World) (hm : m.ok) (hR : RelR m d) (hdc : d.cids = m.cids) (h : DocAt w ge gl d) (hst : StsIn w B d) (hB : B ≤ w.heap.size) (hl : l.length ≤ 9223372036854775807) (hs : shapedB l m.cids = true) (hk : (shapeF l).kind ≠ 3) (hgo : (shapeF l).kind = 3 ∨ ((m.at_ (shapeF l).cid).begun = true ∧ (m.at_ (shapeF l).cid).turn = (shapeF l).turn)) (hck : chk (widthN (shapeF l).kind) (madeN (m.at_ (shapeF l).cid) (shapeF l)) = (shapeF l).chk) :
    Calls Tryz.prog 32 #[.pointer (some ⟨ge, 0, none⟩), .string (bs l)] w fun e w' => DocTook m l w ge gl B e w' := by
  obtain ⟨hsh, hci⟩ := shaped_yes hs
  have hrf := readF_shape hsh
  obtain ⟨p1, p2, p3, p4⟩ := shapeF_parts l
  have s0 : 0 < (bs l).size := by rw [bs_size]; have := hsh.some_; omega
  have b0 := byte_at l 0 (by have := hsh.some_; omega) s0
  have l0 := byteN_lt l 0
  obtain ⟨I, hI⟩ : ∃ I, I = byteN l 0 / 2 % 8 := ⟨_, rfl⟩
  obtain ⟨K, hK⟩ : ∃ K, K = byteN l 0 / 64 := ⟨_, rfl⟩
  obtain ⟨TN, hTN⟩ : ∃ T, T = byteN l 0 / 16 % 4 := ⟨_, rfl⟩
  obtain ⟨H16, hH16⟩ : ∃ H, H = byteN l 0 / 16 := ⟨_, rfl⟩
  obtain ⟨H2, hH2⟩ : ∃ H, H = byteN l 0 / 2 := ⟨_, rfl⟩
  obtain ⟨Q, hQ⟩ : ∃ Q, Q = byteN l 0 := ⟨_, rfl⟩
  obtain ⟨f, hf⟩ : ∃ f, f = shapeF l := ⟨_, rfl⟩
  rw [← hf] at p1 p2 p3 hrf hk hgo hck
  rw [← hQ] at b0 l0 hI hK hTN hH16 hH2 p1 p2 p3 hci
  rw [← hI] at p2 hci
  rw [← hK] at p1
  rw [← hTN] at p3
  have K4 : K ≤ 3 := by omega
  have q1 : (Q : Int).tdiv 64 = (K : Int) := by rw [hK, Int.tdiv_eq_ediv_of_nonneg (by omega)]; omega
  have q1' : (Q : Int) / 64 = (K : Int) := by rw [hK]; omega
  have q2 : (Q : Int).tdiv 16 = (H16 : Int) := by rw [hH16, Int.tdiv_eq_ediv_of_nonneg (by omega)]; omega
  have q2' : (Q : Int) / 16 = (H16 : Int) := by rw [hH16]; omega
  have q3 : (H16 : Int).tmod 4 = (TN : Int) := by rw [hTN, hH16, Int.tmod_eq_emod_of_nonneg (by omega)]; omega
  have q3' : (H16 : Int) % 4 = (TN : Int) := by rw [hTN, hH16]; omega
  have q4 : (Q : Int).tdiv 2 = (H2 : Int) := by rw [hH2, Int.tdiv_eq_ediv_of_nonneg (by omega)]; omega
  have q4' : (Q : Int) / 2 = (H2 : Int) := by rw [hH2]; omega
  have q5 : (H2 : Int).tmod 8 = (I : Int) := by rw [hI, hH2, Int.tmod_eq_emod_of_nonneg (by omega)]; omega
  have q5' : (H2 : Int) % 8 = (I : Int) := by rw [hI, hH2]; omega
  have hI8 : I < 8 := by omega
  have hId : I < d.cs.length := by rw [hR.len]; exact hci
  rw [p2] at hgo hck
  obtain ⟨c, hc⟩ : ∃ c, m.at_ I = c := ⟨_, rfl⟩
  obtain ⟨x, hx⟩ : ∃ x, d.at_ I = x := ⟨_, rfl⟩
  rw [hc] at hgo hck
  have rx := hR.one I hci
  rw [hc, hx] at rx
  have cok : c.ok := by rw [← hc]; exact Rcv.at_ok hm I
  have TK := take_ok0 (m := m) hrf (by rw [p2]; exact hci) (by
    rw [p2, hc]
    unfold refusalN
    rcases hgo with e | e
    · rw [if_neg (fun h => h.1 e), if_neg (fun h => h.1 e), if_pos hck.symm]
    · rw [if_neg (by rw [e.1]; simp), if_neg (by rw [e.2]; simp), if_pos hck.symm])
  rw [p2, hc] at TK

  have MD : ∀ W : World, Below w.heap.size w W → Calls Tryz.prog 58 #[.agg x.cells, .string (bs l)] W fun e w' => MadeIs W c l e w' := fun W hW => made_any x c l B W cok hsh (fun hk3 => by
    have hbg2 : c.begun = true ∧ c.turn = f.turn := by
      rcases hgo with e | e
      · exact absurd ((shapeF_parts l).1.symm.trans ((congrArg Fr.kind hf).symm.trans e)) hk3
      · exact e
    obtain ⟨r1, r2, r3, r4⟩ := rx.rt hbg2.1
    refine ⟨⟨r1, r2, r3⟩, ?_⟩
    have o := (hst I hId).1
    rw [hx] at o
    have e : x.sts = [c.st] := by rw [rx.sts, if_pos hbg2.1]
    rw [e] at o
    exact own_same o (fun q hq => by obtain ⟨cur, hcq⟩ := own_ty o hq; exact hW.block q (block_lt hcq)))
  obtain ⟨FP, hFP⟩ : ∃ FP, FP = (madeN c f).flat := ⟨_, rfl⟩
  obtain ⟨NP, hNP⟩ : ∃ NP, NP = (followN c f).st.flat := ⟨_, rfl⟩
  have gFP : GoodFf FP := by rw [hFP]; exact Pk.goodFf _
  have gNP : GoodRs NP := by rw [hNP]; exact St.goodRs _
  have HMD := hide (show ∀ W : World, Below w.heap.size w W → Calls Tryz.prog 58 #[.agg x.cells, .string (bs l)] W fun e w' => e = .returned (.tuple #[.agg FP, .agg NP, .bool true]) ∧ Below W.heap.size W w' by
    intro W hW
    refine (MD W hW).mono ?_
    rintro e w' ⟨rfl, hb⟩
    refine ⟨?_, hb⟩
    rw [← hf, ← hFP, ← hNP, decide_eq_true hck])
  have HFP := hide hFP
  have HNP := hide hNP
  clear MD hFP hNP
  obtain ⟨P, hP⟩ : ∃ P, P = madeN c f := ⟨_, rfl⟩
  obtain ⟨n, hn⟩ : ∃ n, n = (followN c f).st := ⟨_, rfl⟩
  have hPok : P.ok := by rw [hP]; exact madeN_ok cok (readF_ok hrf).1
  have hrel : ∀ v, RelX (followN c f) (Rc.took P TN v n) := fun v => ⟨rfl, fun _ => ⟨by rw [hP]; rfl, by rw [hP]; rfl, by rw [hP]; rfl, by show TN = f.turn; rw [p3]⟩, by rw [hn]; rfl, rfl, rfl, by show TN < 4; omega⟩
  have HREL := hide hrel
  have HPo := hide hPok
  have HFP2 := hide (show FP = P.flat by rw [hP]; exact unhide HFP)
  have HNP2 := hide (show NP = n.flat by rw [hn]; exact unhide HNP)
  rw [← hP] at TK
  clear hrel hPok hP hn
  have hbg : c.begun = true ∧ c.turn = f.turn := by
    rcases hgo with e | e
    · exact absurd e hk
    · exact e
  rw [p1] at hk
  have kI : ¬ ((K : Int) = 3) := by omega
  have kI2 : ((K : Int) == 3) = false := beq_eq_false_iff_ne.2 kI
  have kI3 : ((K : Int) != 3) = true := bne_iff_ne.2 kI
  have tI0 : x.turn = TN := by rw [(rx.rt hbg.1).2.2.2, hbg.2, p3]
  have tI : (x.turn : Int) = (TN : Int) := by omega
  have tI3 : ((x.turn : Int) == (TN : Int)) = true := beq_iff_eq.2 tI
  have tI4 : ((x.turn : Int) != (TN : Int)) = false := by rw [bne, tI3]; rfl

  obtain ⟨ZP, hZP⟩ : ∃ ZP, ZP = zeroP.cells := ⟨_, rfl⟩
  have zvP : ∀ w, (zeroValue 41).run Tryz.prog w = .ok (.agg ZP) w := by rw [hZP]; intro w; exact Tryz.zeroValue41 w
  have gP : GoodPk ZP := by rw [hZP]; exact Pk.good zeroP
  obtain ⟨ZF, hZF⟩ : ∃ ZF : Array Value, ZF = zeroP.flat := ⟨_, rfl⟩
  have zvF : ∀ w, (zeroValue 125).run Tryz.prog w = .ok (.agg ZF) w := by rw [hZF]; intro w; exact Tryz.zeroValue125 w
  obtain ⟨Z5, hZ5⟩ : ∃ Z5 : Array Value, Z5 = St.zero.flat := ⟨_, rfl⟩
  have zv5 : ∀ w, (zeroValue 111).run Tryz.prog w = .ok (.agg Z5) w := by rw [hZ5]; intro w; exact Tryz.zeroValue111 w
  obtain ⟨Z, hZ⟩ : ∃ Z : Array Value, Z = Rc.blank.cells := ⟨_, rfl⟩
  have zv : ∀ w, (zeroValue 109).run Tryz.prog w = .ok (.agg Z) w := by rw [hZ]; intro w; exact Tryz.zeroValue109 w
  have HZP := hide hZP
  have HSH := hide (show ∀ w : World, Calls Tryz.prog 57 #[.string (bs l), .int .i64 m.cids] w fun e w' => e = .returned (.bool true) ∧ w' = w by
    intro w; have := shaped_any l m.cids w hl hm.c8; rw [hs] at this; exact this)
  have d3 : w.cell? ⟨ge, 3, none⟩ = some (.slice (some ⟨gl, 0, none⟩) m.cids m.cids) := by have := block_cell h.head 3; rw [hR.len] at this; exact this
  have hge := block_lt h.head
  have hgl := block_lt h.rows
  have hb2 : Below w.heap.size w ((w.alloc (.cells ZP 41)).alloc (.cells ZP 41)) := ((Below.refl _ _).alloc (Nat.le_refl _) _).alloc (by simp) _
  have D2 := h.keep hb2
  have r1 := D2.rcIn hId
  have r2 := D2.rcOf hId
  rw [hx] at r2
  obtain ⟨X, hX⟩ : ∃ X, X = x.cells := ⟨_, rfl⟩
  rw [← hX] at r2
  have hslx : ∃ a l c, x.sv = .slice a l c := by rw [← hx]; exact h.sl I hId
  have gs := run_storeRc_new ((w.alloc (.cells ZP 41)).alloc (.cells ZP 41)) X Z 109 (by rw [hX]; exact Rc.good_ hslx) (by rw [hZ]; rfl)
  have eW : ((w.alloc (.cells ZP 41)).alloc (.cells ZP 41)).heap.size = w.heap.size + 1 + 1 := by simp
  rw [eW] at gs
  have I5 := InDt.start h ZP ZF Z5 x
  rw [← hX] at I5
  have z1 : RcIn (((((w.alloc (.cells ZP 41)).alloc (.cells ZP 41)).alloc (.cells X 109)).alloc (.cells ZF 125)).alloc (.cells Z5 111)) (w.heap.size + 1 + 1) 0 := block_rcIn I5.cx
  have z2 : rcOf (((((w.alloc (.cells ZP 41)).alloc (.cells ZP 41)).alloc (.cells X 109)).alloc (.cells ZF 125)).alloc (.cells Z5 111)) (w.heap.size + 1 + 1) 0 = X := (block_rcOf I5.cx).trans hX.symm
  have xh : X[0]? = some (.bool true) := by rw [hX]; show some (Value.bool x.has) = _; rw [rx.has, hbg.1]
  have xt : X[4]? = some (.int .i64 (x.turn : Int)) := by rw [hX]; rfl
  have i0 : (0 : Int) ≤ (I : Int) := by omega
  have i1 : (I : Int) < (m.cids : Int) := by omega
  have wI : IntKind.i64.wrap (I : Int) = (I : Int) := by rw [IntKind.wrap_i64]; omega
  obtain ⟨M, hM⟩ : ∃ M, M = (c.missed + 1) % 256 := ⟨_, rfl⟩
  have hM2 := cok.missed
  have x12 : X[12]? = some (.int .i64 (c.missed : Int)) := by rw [hX, ← rx.missed]; rfl
  have v1 : IntKind.i64.wrap ((c.missed : Int) + 1) = (c.missed : Int) + 1 := by rw [IntKind.wrap_i64]; omega
  have v2 : ((c.missed : Int) + 1).tmod 256 = (M : Int) := by rw [hM, Int.tmod_eq_emod_of_nonneg (by omega)]; omega
  have v2' : ((c.missed : Int) + 1) % 256 = (M : Int) := by rw [hM]; omega
  have hM3 : M < 256 := by omega
  have v3 : IntKind.i64.wrap (M : Int) = (M : Int) := by rw [IntKind.wrap_i64]; omega

  have HzF := hide (show ZF.size = 8 by rw [hZF]; rfl)
  have Hz5 := hide (show Z5.size = 5 by rw [hZ5]; rfl)
  have HI5 := hide I5
  have HI5x := hide (InDt.start h ZP ZF Z5 x)
  have HXX := hide hX
  have HR := hide hR
  have HD := hide h
  have HST := hide hst
  have HHM := hide hm
  have Hc := hide hc
  have Hx := hide hx
  have HdI := hide hId
  have HLEN := hide hR.len
  have HTK := hide TK
  clear hX hR h hst hm hc hx hId TK D2 hb2 hsh hrf p1 p2 p3 p4 hI hK hTN hH16 hH2 hQ hf hs rx hM hZP hZF hZ5 hZ hslx hM2 I5 hbg hgo hck hk tI0
  go_enter Tryz.func32, Tryz.ntmps32
  go_upto_region 25 with (first | (go_at_call 57; refine (unhide HSH _).mono ?_; rintro e w1 ⟨rfl, h1⟩; have h1 := h1.symm; subst h1) | (go_at_call 58; rw [unhide HXX]; refine (unhide HMD _ (unhide HI5x).below).mono ?_; rintro e w7 ⟨rfl, hb7⟩; rw [← unhide HXX]; have HI7 := hide ((unhide HI5x).call hb7); have gzF : FfTo w7 (w.heap.size + 1 + 1 + 1) := ⟨_, _, (unhide HI7).fl, unhide HzF⟩; have gzN : RsIn (w7.setRow (w.heap.size + 1 + 1 + 1) FP) (w.heap.size + 1 + 1 + 1 + 1) := ⟨_, _, ((unhide HI7).putF FP).st, unhide Hz5⟩; clear hb7))
  have HI6 := hide (((unhide HI7).putF FP).putN NP)
  clear r1 r2 gs eW z1 z2 zv zvF zv5 zvP HI5 HI5x gzF gzN q1 q1' q2 q2' q3 q3' q4 q4' q5 q5' xh xt b0 l0 d3 HI7
  rw [unhide HXX]
  generalize (w7.setRow (w.heap.size + 1 + 1 + 1) FP).setRow (w.heap.size + 1 + 1 + 1 + 1) NP = W6 at HI6 ⊢
  generalize w.heap.size + 1 + 1 + 1 + 1 = gn at HI6 ⊢
  generalize w.heap.size + 1 + 1 + 1 = gf at HI6 ⊢
  generalize w.heap.size + 1 + 1 = gx at HI6 ⊢
  have e3 : W6.cell? ⟨ge, 3, none⟩ = some (.slice (some ⟨gl, 0, none⟩) m.cids m.cids) := by have := block_cell (unhide HI6).doc.head 3; rw [unhide HLEN] at this; exact this
  have a0 : W6.cell? ⟨gf, 0, none⟩ = some (.int .u32 (P.src : Int)) := by rw [block_cell (unhide HI6).fl, unhide HFP2]; rfl
  have a1 : W6.cell? ⟨gf, 1, none⟩ = some (.int .u32 (P.dst : Int)) := by rw [block_cell (unhide HI6).fl, unhide HFP2]; rfl
  have a2 : W6.cell? ⟨gf, 2, none⟩ = some (.int .u16 (P.port : Int)) := by rw [block_cell (unhide HI6).fl, unhide HFP2]; rfl
  have n0 : W6.cell? ⟨gn, 0, none⟩ = some (.int .i64 (n.seq : Int)) := by rw [block_cell (unhide HI6).st, unhide HNP2]; rfl
  have n1 : W6.cell? ⟨gn, 1, none⟩ = some (.int .i64 (n.stride : Int)) := by rw [block_cell (unhide HI6).st, unhide HNP2]; rfl
  have n2 : W6.cell? ⟨gn, 2, none⟩ = some (.int .i64 (n.offset : Int)) := by rw [block_cell (unhide HI6).st, unhide HNP2]; rfl
  have n3 : W6.cell? ⟨gn, 3, none⟩ = some (.int .i64 (n.lag : Int)) := by rw [block_cell (unhide HI6).st, unhide HNP2]; rfl
  have n4 : W6.cell? ⟨gn, 4, none⟩ = some (.int .i64 (n.flags : Int)) := by rw [block_cell (unhide HI6).st, unhide HNP2]; rfl
  have e3d : W6.drew.cell? ⟨ge, 3, none⟩ = some (.slice (some ⟨gl, 0, none⟩) m.cids m.cids) := e3
  have a0d : W6.drew.cell? ⟨gf, 0, none⟩ = some (.int .u32 (P.src : Int)) := a0
  have a1d : W6.drew.cell? ⟨gf, 1, none⟩ = some (.int .u32 (P.dst : Int)) := a1
  have a2d : W6.drew.cell? ⟨gf, 2, none⟩ = some (.int .u16 (P.port : Int)) := a2
  have n0d : W6.drew.cell? ⟨gn, 0, none⟩ = some (.int .i64 (n.seq : Int)) := n0
  have n1d : W6.drew.cell? ⟨gn, 1, none⟩ = some (.int .i64 (n.stride : Int)) := n1
  have n2d : W6.drew.cell? ⟨gn, 2, none⟩ = some (.int .i64 (n.offset : Int)) := n2
  have n3d : W6.drew.cell? ⟨gn, 3, none⟩ = some (.int .i64 (n.lag : Int)) := n3
  have n4d : W6.drew.cell? ⟨gn, 4, none⟩ = some (.int .i64 (n.flags : Int)) := n4
  have lge : ge < W6.heap.size := block_lt (unhide HI6).doc.head
  have lgf : gf < W6.heap.size := block_lt (unhide HI6).fl
  have lgn : gn < W6.heap.size := block_lt (unhide HI6).st
  have lgl : gl < W6.heap.size := block_lt (unhide HI6).doc.rows
  have to1 : ∀ O, RcTo (W6.drew.alloc O) gl (I * 13) := fun O => DocAt.rcTo (g := ge) (gl := gl) (d := d) ⟨block_alloc (show W6.drew.heap[ge]? = _ from (unhide HI6).doc.head) O, block_alloc (show W6.drew.heap[gl]? = _ from (unhide HI6).doc.rows) O, (unhide HI6).doc.sl⟩ (unhide HdI)
  have to2 : ∀ O, RcTo (W6.alloc O).drew gl (I * 13) := fun O => to1 O
  go_cut [11] (fun v wx => v = .int .i64 (I : Nat) ∧ ∃ sv, InDz w ge gl (d.set I (Rc.took P TN sv n)) gf FP sv n wx)
  case first =>
    go_region
    all_goals
      have HZ6 := hide (took_put gP.1 ((unhide HI6).call (Below.refl _ _).drew) (unhide HdI) P TN n)
      go_wp2_with fail
      go_meet
      case rel => exact ⟨rfl, _, unhide HZ6⟩
  case rest =>
    obtain ⟨rfl, sv, IZ⟩ := hcut
    clear e3 a0 a1 a2 n0 n1 n2 n3 n4 e3d a0d a1d a2d n0d n1d n2d n3d n4d to1 to2 HI6
    have y1 : FfIn wc gf := ⟨_, _, _, IZ.fl, gFP.1⟩
    have y2 : ffOf wc gf = FP := by unfold ffOf; rw [IZ.fl]
    have HIZ := hide IZ
    obtain ⟨PC, hPC⟩ : ∃ PC, PC = P.cells := ⟨_, rfl⟩
    have gPC : GoodPk PC := by rw [hPC]; exact Pk.good P
    have HPC := hide hPC
    clear IZ hPC
    go_wp2_with (go_at_call 60; rw [unhide HFP2]; refine (packet_any P _ (unhide HPo)).mono ?_; rintro e w9 ⟨rfl, hb9⟩; rw [← unhide HFP2, ← unhide HPC]; have HB9 := hide hb9; have pkr : PkTo w9 w.heap.size := (by obtain ⟨cs, t, h1, h2⟩ := (unhide HIZ).res; exact ⟨cs, t, block_keep h1 hb9, h2⟩); clear hb9)
    have hbz : Below wc.heap.size wc w9 := unhide HB9
    obtain ⟨cs, t, hres, hcs⟩ := pkr
    have onl : Only (· = gl) w (w9.setRow w.heap.size PC) := ((unhide HIZ).only.trans (Only.of_below hbz)).new (Nat.le_refl _) _
    have own9 : (w9.setRow w.heap.size PC).ownsRow w.heap.size 111 5 sv 1 (scells [n]) := by
      refine own_same (unhide HIZ).own (fun q hq => ?_)
      obtain ⟨cur, hcq⟩ := own_ty (unhide HIZ).own hq
      obtain ⟨cs1, t1, hr1, _⟩ := (unhide HIZ).res
      have hne : q ≠ w.heap.size := by
        intro e
        have h9 := hres
        rw [← e, hbz.block q (block_lt hcq), hcq] at h9
        simp at h9
        have := congrArg Array.size h9.1
        rcases (unhide HIZ).own.2 with ⟨e1, _⟩ | ⟨g2, cap, cur2, e1, _, e2, e3, _, e4, _⟩
        · rw [e1] at hq; simp [Value.ownBlock] at hq
        · rw [e1] at hq
          simp [Value.ownBlock] at hq
          subst hq
          rw [e2] at hcq
          simp at hcq
          rw [← hcq] at this
          omega
      rw [setRow_other _ _ _ _ hne]
      exact hbz.block q (block_lt hcq)
    have fin : DocTook m l w ge gl B (.returned (.tuple #[.agg PC, .string (bs []), .int .i64 0])) (w9.setRow w.heap.size PC) := by
      obtain ⟨t1, t2, t3, t4⟩ := unhide HTK
      refine ⟨by rw [t1, t2, t3, unhide HPC]; rfl, _, ?_, ?_, ?_, took_sts (p := P) (t := TN) (unhide HST) (unhide HD) (unhide HdI) onl hB own9, onl⟩
      · rw [t4]
        exact (unhide HR).put (unhide HHM) hci (unhide HREL sv)
      · exact hdc
      · have D9 := (unhide HIZ).doc.keep hbz
        exact ⟨by rw [setRow_other _ _ _ _ (by omega)]; exact D9.head, by rw [setRow_other _ _ _ _ (by omega)]; exact D9.rows, D9.sl⟩
    exact ret_whole3 (cs := PC) Tryz.results32 rfl (setRow_heap _ _ _ _ _ _ hres) Tryz.underlying41 rfl (by rw [gPC.1]; exact infoPk) rfl fin

theorem dtake_any (m : Rcv) (d : Doc) (l : List UInt8) (ge gl B : Nat) (w : World) (hm : m.ok) (hR : RelR m d) (hdc : d.cids = m.cids) (h : DocAt w ge gl d) (hst : StsIn w B d) (hB : B ≤ w.heap.size) (hl : l.length ≤ 9223372036854775807) :
    Calls Tryz.prog 32 #[.pointer (some ⟨ge, 0, none⟩), .string (bs l)] w fun e w' => DocTook m l w ge gl B e w' := by
  cases hs : shapedB l m.cids with
  | false => exact dtake_bad m d l ge gl B w hm hR hdc h hst hl hs
  | true =>
    by_cases hgo : (shapeF l).kind = 3 ∨ ((m.at_ (shapeF l).cid).begun = true ∧ (m.at_ (shapeF l).cid).turn = (shapeF l).turn)
    · by_cases hck : chk (widthN (shapeF l).kind) (madeN (m.at_ (shapeF l).cid) (shapeF l)) = (shapeF l).chk
      · by_cases hk : (shapeF l).kind = 3
        · exact dtake_0w m d l ge gl B w hm hR hdc h hst hB hl hs hk hgo hck
        · exact dtake_0n m d l ge gl B w hm hR hdc h hst hB hl hs hk hgo hck
      · by_cases hk : (shapeF l).kind = 3
        · exact dtake_10w m d l ge gl B w hm hR hdc h hst hB hl hs hk hgo hck
        · exact dtake_10n m d l ge gl B w hm hR hdc h hst hB hl hs hk hgo hck
    · have hk : (shapeF l).kind ≠ 3 := fun e => hgo (Or.inl e)
      cases hbg : (m.at_ (shapeF l).cid).begun with
      | false => exact dtake_8 m d l ge gl B w hm hR hdc h hst hB hl hs hk hbg
      | true => exact dtake_9 m d l ge gl B w hm hR hdc h hst hB hl hs hk hbg (fun e => hgo (Or.inr ⟨hbg, e⟩))

end Go.Proofs.YtgpojbgjfibblaaGreat.texts

namespace Go.Proofs.YtgpojbgjfibblaaGreat.texts
open Go.RowKit
set_option linter.unusedVariables false
attribute [local go_sem ↓] Go.wp_at_zero Go.wp_at_succ
attribute [local go_sem ↓] loadRx_eq
attribute [local go_sem] run_loadRx

def rflowV (cid : Nat) (c : Rx) : Array Value := #[.int .u8 cid, .int .u8 c.turn, .int .u32 c.src, .int .u32 c.dst, .int .u16 c.port, .int .u16 c.st.seq, .int .i64 c.missed]
def rflowsK (m : Rcv) : Nat → List Value
  | 0 => []
  | j + 1 => rflowsK m j ++ (if (m.at_ j).begun = true then (rflowV j (m.at_ j)).toList else [])
def rcountK (m : Rcv) : Nat → Nat
  | 0 => 0
  | j + 1 => rcountK m j + (if (m.at_ j).begun = true then 1 else 0)
theorem rcountK_le (m : Rcv) (j : Nat) : rcountK m j ≤ j := by
  induction j with
  | zero => exact Nat.le_refl 0
  | succ j ih => unfold rcountK; split <;> omega
theorem rflowV_one (i : Nat) (c : Rx) : ∀ u ∈ (rflowV i c).toList, u.oneCell' = true := by
  intro u hu
  simp only [rflowV, List.mem_cons, List.not_mem_nil, or_false] at hu
  rcases hu with h | h | h | h | h | h | h <;> (subst h; rfl)
theorem rflows_rows (m : Rcv) (j : Nat) : FlRows (rcountK m j) (rflowsK m j) ∧ (rflowsK m j).length = rcountK m j * 7 := by
  induction j with
  | zero => exact ⟨fun k hk => by simp [rcountK] at hk, rfl⟩
  | succ j ih =>
    unfold rflowsK rcountK
    by_cases h : (m.at_ j).begun = true
    · rw [if_pos h, if_pos h]
      exact ⟨ih.1.snoc ih.2 _ _ _ _ _ _ _, by rw [List.length_append, ih.2, show (rflowV j (m.at_ j)).toList.length = 7 from rfl]; omega⟩
    · rw [if_neg h, if_neg h, List.append_nil]
      exact ih
theorem RcvAt.cell {w : World} {b : Nat} {m : Rcv} (h : RcvAt w b m) (i j : Nat) (hi : i < m.cs.length) (hj : j < 11) : w.cell? ⟨b, 1 + i * 11 + j, none⟩ = (m.at_ i).cells[j]? := by
  rw [block_cell h, Nat.mul_comm i 11]
  exact Rcv.get m i j hi hj
theorem RcvAt.rxIn {w : World} {b : Nat} {m : Rcv} (h : RcvAt w b m) (i : Nat) (hi : i < m.cs.length) : RxIn w b (1 + i * 11) := ⟨_, _, _, h, by rw [Rcv.cells_size]; omega⟩
theorem RcvAt.rxOf {w : World} {b : Nat} {m : Rcv} (h : RcvAt w b m) (i : Nat) (hi : i < m.cs.length) : rxOf w b (1 + i * 11) = (m.at_ i).cells := by
  have h' : w.heap[b]? = some (.cells m.cells 118 (0, 0)) := h
  unfold texts.rxOf
  rw [h']
  simp only
  apply Array.ext_getElem?
  intro k
  rw [List.getElem?_toArray, List.getElem?_take]
  by_cases hk : k < 11
  · rw [if_pos hk, List.getElem?_drop, Array.getElem?_toList, Nat.mul_comm i 11, Rcv.get m i k hi hk]
  · rw [if_neg hk, Array.getElem?_eq_none (by rw [Rx.cells_size]; omega)]

set_option maxRecDepth 100000 in
set_option maxHeartbeats 2000000 in
theorem rcflow_any (c : Rx) (cid : Nat) (w : World) (h : cid < 8) (hc : c.missed < 256) :
    Calls Tryz.prog 69 #[.agg c.cells, .int .i64 cid] w fun e w' => e = .returned (.agg (rflowV cid c)) ∧ Below w.heap.size w w' := by
  obtain ⟨C, hC⟩ : ∃ C, C = c.cells := ⟨_, rfl⟩
  have e1 : C[1]? = some (.int .u32 c.src) := by rw [hC]; rfl
  have e2 : C[2]? = some (.int .u32 c.dst) := by rw [hC]; rfl
  have e3 : C[3]? = some (.int .u16 c.port) := by rw [hC]; rfl
  have e4 : C[4]? = some (.int .u8 c.turn) := by rw [hC]; rfl
  have e5 : C[5]? = some (.int .u16 c.st.seq) := by rw [hC]; rfl
  have e10 : C[10]? = some (.int .u8 c.missed) := by rw [hC]; rfl
  have hw := wrap8 (show cid < 256 by omega)
  have hw2 : IntKind.i64.wrap (c.missed : Int) = (c.missed : Int) := by rw [IntKind.wrap_i64]; omega
  rw [← hC]
  clear hC
  go_enter Tryz.func69, Tryz.ntmps69
  go_wp2
  exact bodyPost_ret (v := .agg (rflowV cid c)) (by simp [results, Tryz.results69, go_sem, rflowV]) rfl ⟨rfl, ((Below.refl _ _).alloc (Nat.le_refl _) _).alloc (by simp) _⟩

set_option maxRecDepth 100000 in
set_option maxHeartbeats 4000000 in
theorem rflows_any (m : Rcv) (b : Nat) (w : World) (hm : m.ok) (h : RcvAt w b m) :
    Calls Tryz.prog 42 #[.pointer (some ⟨b, 0, none⟩)] w fun e w' => ∃ v, e = .returned v ∧ w'.ownsRow w.heap.size 67 7 v (rcountK m 8) (rflowsK m 8) ∧ Below w.heap.size w w' := by
  have hl := hm.len
  have HMM := hide hm
  have H := hide h
  have hbw : b < w.heap.size := block_lt h
  obtain ⟨i0, hi, hz0, hz1, hz2⟩ := info_parts infoFl
  clear h hm
  go_enter Tryz.func42, Tryz.ntmps42
  go_wp2_with fail
  go_loopw [3, 4] (fun v i wr => ∃ j : Nat, j ≤ 8 ∧ i = .int .i64 j ∧ wr.ownsRow w.heap.size 67 7 v (rcountK m j) (rflowsK m j) ∧ RcvAt wr b m ∧ Below w.heap.size w wr ∧ w.heap.size ≤ wr.heap.size) (fun _ i _ => 8 - (intOf i).toNat)
  case atStart => exact ⟨0, by omega, rfl, World.ownsRow_nil _ _ _ _, unhide H, Below.refl _ _, Nat.le_refl _⟩
  case round =>
    obtain ⟨j, hj, rfl, hown, hT, hB, hz⟩ := hrel
    clear H
    by_cases hlt : j < 8
    · have j0 : (0 : Int) ≤ (j : Int) := by omega
      have j1 : (j : Int) < 8 := by omega
      have k0 : wr.cell? ⟨b, 1 + j * 11, none⟩ = some (.bool (m.at_ j).begun) := by have := hT.cell j 0 (by omega) (by omega); exact this
      have hcl := rcountK_le m j
      have HOW := hide hown
      have HT := hide hT
      have HB := hide hB
      have hbl := block_lt hT
      clear hown hT hB
      by_cases hk : (m.at_ j).begun = true
      · have e1 : rflowsK m (j + 1) = rflowsK m j ++ (rflowV j (m.at_ j)).toList := by simp [rflowsK, hk]
        have e2 : rcountK m (j + 1) = rcountK m j + 1 := by simp [rcountK, hk]
        have E1 := hide e1
        have E2 := hide e2
        rw [hk] at k0
        clear e1 e2
        obtain ⟨C, hC⟩ : ∃ C, C = (m.at_ j).cells := ⟨_, rfl⟩
        have x1 := (unhide HT).rxIn j (by omega)
        have x2 : rxOf wr b (1 + j * 11) = C := by rw [hC]; exact (unhide HT).rxOf j (by omega)
        have HC := hide hC
        have hmis : (m.at_ j).missed < 256 := (Rcv.at_ok (unhide HMM) j).missed
        clear hC hk
        go_wp2_with (go_at_call 69; refine Stop.out ?_)
        refine ⟨?_⟩
        rw [unhide HC]
        refine (rcflow_any (m.at_ j) j _ hlt hmis).mono ?_
        rintro e w2 ⟨rfl, hb2⟩
        have hown := own_same (unhide HOW) (fun g hg => by obtain ⟨cur, hc⟩ := own_ty (unhide HOW) hg; exact hb2.block g (block_lt hc))
        have HB2 := hide (keep_below (unhide HB) hb2 hz)
        have HT2 := hide (block_keep (unhide HT) hb2)
        have hz2' : w.heap.size ≤ w2.heap.size := Nat.le_trans hz hb2.size
        clear hb2 HOW HB HT
        clear x1 x2 hmis
        generalize m.at_ j = c at *
        unfold rflowV
        go_wp2_with (at_builtin; refine wpList_append_own _ rfl _ _ 68 rfl w.heap.size 67 i0 _ 7 32 Tryz.underlying68 hi hz0 hz1 hz2 rfl (by decide) _ _ _ rfl (hown.alloc _) ⟨w2.heap.size, 0, none⟩ 1 1 (rflowV j c).toList rfl rfl ?c1 (rflowV_one j c) ?c3 ?c4 ?c5 ?_)
        case c1 =>
          intro i u hu
          have hi7 : i < 7 := by
            have := (List.getElem?_eq_some_iff.1 hu).1
            simpa [rflowV] using this
          rw [Addr.add_mid, Nat.zero_add, block_cell (heap_alloc_new w2 _)]
          have : (rflowV j c)[i]? = some u := by simpa using hu
          exact this
        case c3 => unfold maxLen; omega
        case c4 => omega
        case c5 => simp; omega
        intro v' w3 hown3 hgrow3 _
        have R2 : Below w.heap.size w w3 := ((unhide HB2).alloc hz2' _).grown hgrow3 (by simp; omega) (fun k hk => (hown.lt k hk).1)
        have R3 : RcvAt w3 b m := by
          have hb4 : w3.heap[b]? = _ := hgrow3.block b (by have := block_lt (unhide HT2); simp; omega) (fun e => by have h1 := (hown.lt b e.symm).1; have h2 := hbw; omega)
          rw [RcvAt, hb4]
          exact block_alloc (unhide HT2) _
        have R4 : w.heap.size ≤ w3.heap.size := R2.size
        have H1 := hide hown3
        have H2 := hide R2
        have H3 := hide R3
        clear hown hown3 hgrow3 HB2 R2 R3 HT2
        go_wp2
        go_roundw
        case rel => exact ⟨j + 1, by omega, by go_num, by rw [unhide E1, unhide E2]; exact unhide H1, unhide H3, unhide H2, R4⟩
        case measure => simp [intOf]; omega
      · have hk0 : (m.at_ j).begun = false := by simpa using hk
        have e1 : rflowsK m (j + 1) = rflowsK m j := by simp [rflowsK, hk0]
        have e2 : rcountK m (j + 1) = rcountK m j := by simp [rcountK, hk0]
        have E1 := hide e1
        have E2 := hide e2
        clear e1 e2 hk
        rw [hk0] at k0
        go_wp2
        go_roundw
        case rel => exact ⟨j + 1, by omega, by go_num, by rw [unhide E1, unhide E2]; exact unhide HOW, unhide HT, unhide HB, hz⟩
        case measure => simp [intOf]; omega
    · have e : j = 8 := by omega
      subst e
      have HOW := hide hown
      have HB := hide hB
      clear hown hT hB
      go_wp2
      go_ret
      exact ⟨_, rfl, unhide HOW, unhide HB⟩

set_option maxRecDepth 100000 in
set_option maxHeartbeats 1000000 in
theorem grflows_any (m : Rcv) (b : Nat) (w : World) (hm : m.ok) (h : RcvAt w b m) :
    Calls Tryz.prog 21 #[.pointer (some ⟨b, 0, none⟩)] w fun e w' => ∃ v, e = .returned v ∧ w'.ownsRow w.heap.size 67 7 v (rcountK m 8) (rflowsK m 8) ∧ Below w.heap.size w w' := by
  have HM := hide hm
  have H := hide h
  clear hm h
  go_enter Tryz.func21, Tryz.ntmps21
  go_wp2_with (go_at_call 42; refine (rflows_any m b _ (unhide HM) (unhide H)).mono ?_; rintro e w1 ⟨v, rfl, h1, h2⟩; have HO := hide h1; have HB := hide h2; clear h1 h2)
  go_ret
  exact ⟨_, rfl, unhide HO, unhide HB⟩

theorem built_rcv0 : Tryz.prog.built 116 [] = some (freshR 0).cells := by kernel_rfl
set_option maxRecDepth 100000 in
set_option maxHeartbeats 4000000 in
theorem rnew_no (c k r : Int) (w : World) (h : confB c k r = false) :
    Calls Tryz.prog 70 #[.agg #[.int .i64 c, .int .i64 k, .int .i64 r]] w fun e w' => e = .returned (.tuple #[.agg (freshR 0).cells, .int .i64 6]) ∧ Below w.heap.size w w' := by
  obtain ⟨Z, hZ⟩ : ∃ Z, Z = (freshR 0).cells := ⟨_, rfl⟩
  have zv : ∀ w, (zeroValue 116).run Tryz.prog w = .ok (.agg Z) w := by rw [hZ]; exact (zero_of_info zeroRcv).1
  rw [← hZ]
  have HV := hide (show ∀ w : World, Calls Tryz.prog 46 #[.agg #[.int .i64 c, .int .i64 k, .int .i64 r]] w fun e w' => e = .returned (.bool false) ∧ Below w.heap.size w w' by
    intro w; have := valid_any c k r w; rw [h] at this; exact this)
  have HZ := hide (show ∀ o : Obj, ((w.alloc o).alloc (.cells Z 116)).heap[w.heap.size + 1]? = some (.cells Z 116 (0, 0)) from fun o => by
    have := heap_alloc_new (w.alloc o) (.cells Z 116)
    simpa using this)
  have HB := hide (show Tryz.prog.built 116 [] = some Z by rw [hZ]; exact built_rcv0)
  have RI := hide (show (Tryz.prog.info? 116).map (·.size) = some Z.size by rw [hZ, freshR_size]; exact infoRcv)
  have RO := hide (show Z.all (·.oneCell') = true by rw [hZ]; exact Rcv.cells_one _)
  clear hZ h
  go_enter Tryz.func70, Tryz.ntmps70
  go_wp2_with (first
    | (go_at_call 46; refine (unhide HV _).mono ?_; rintro e w1 ⟨rfl, hb1⟩; have G := hide (block_keep (unhide HZ _) hb1); have W := hide (grew_call (((Below.refl _ _).alloc (Nat.le_refl _) _).alloc (by simp) _) hb1 : Below w.heap.size w w1); clear hb1)
    | (refine build_is (ty := 116) (unhide HB) ?_)
    | (refine store_whole (ty := 116) rfl rfl (unhide G) (unhide RI) rfl (unhide RO) ?_))
  exact ret_whole2 (cs := Z) Tryz.results70 rfl (setRow_heap _ _ _ _ _ _ (unhide G)) Tryz.underlying116 rfl (unhide RI) rfl ⟨rfl, below_setRow (unhide W) (by omega) _⟩

set_option maxRecDepth 100000 in
set_option maxHeartbeats 4000000 in
theorem gnewR_no (c k r : Int) (w : World) (h : confB c k r = false) :
    Calls Tryz.prog 45 #[.agg #[.int .i64 c, .int .i64 k, .int .i64 r]] w fun e w' => e = .returned (.tuple #[.pointer none, .int .i64 6]) ∧ Below w.heap.size w w' := by
  obtain ⟨Z, hZ⟩ : ∃ Z, Z = (freshR 0).cells := ⟨_, rfl⟩
  have zv : ∀ w, (zeroValue 116).run Tryz.prog w = .ok (.agg Z) w := by rw [hZ]; exact (zero_of_info zeroRcv).1
  have HV := hide (show ∀ w : World, Calls Tryz.prog 70 #[.agg #[.int .i64 c, .int .i64 k, .int .i64 r]] w fun e w' => e = .returned (.tuple #[.agg Z, .int .i64 6]) ∧ Below w.heap.size w w' by
    intro w; rw [hZ]; exact rnew_no c k r w h)
  have RI := hide (show (Tryz.prog.info? 116).map (·.size) = some Z.size by rw [hZ, freshR_size]; exact infoRcv)
  have RO := hide (show Z.all (·.oneCell') = true by rw [hZ]; exact Rcv.cells_one _)
  clear hZ h
  go_enter Tryz.func45, Tryz.ntmps45
  go_wp2_with (first
    | (go_at_call 70; refine (unhide HV _).mono ?_; rintro e w1 ⟨rfl, hb1⟩; have W := hide (grew_call ((Below.refl _ _).alloc (Nat.le_refl _) _) hb1); clear hb1)
    | (refine store_new (ty := 116) (old := Z) rfl rfl rfl (unhide RI) rfl (unhide RO) ?_))
  go_ret2
  exact ⟨rfl, grew_alloc (unhide W) _⟩

end Go.Proofs.YtgpojbgjfibblaaGreat.texts

namespace Go.Proofs.YtgpojbgjfibblaaGreat.texts
open Go.RowKit
set_option linter.unusedVariables false

theorem take_ok2 {y : Rcv} (hy : y.ok) (l : List UInt8) : (takeM y l).ok := by
  unfold takeM
  split
  · exact hy
  · rename_i f hf
    have o := (readF_ok hf).1
    have a := Rcv.at_ok hy f.cid
    split
    · exact hy
    · split
      · exact Rcv.set_ok hy _ (followN_ok a o)
      · split
        · exact hy
        · exact Rcv.set_ok hy _ ⟨a.src, a.dst, a.port, a.turn, a.st, Nat.mod_lt _ (by decide)⟩
/-- contexts that are none -/
def Idle (m : Rcv) : Prop := ∀ i, m.cids ≤ i → i < 8 → (m.at_ i).begun = false
theorem takeM_cids (m : Rcv) (l : List UInt8) : (takeM m l).cids = m.cids := by
  unfold takeM
  split
  · rfl
  · split
    · rfl
    · split
      · rfl
      · split <;> rfl
theorem idle_take {m : Rcv} (hm : m.ok) (h : Idle m) (l : List UInt8) : Idle (takeM m l) := by
  intro i hi h8
  rw [takeM_cids] at hi
  have key : ∀ (j : Nat) (c : Rx), j < m.cids → ((m.set j c).at_ i).begun = false := by
    intro j c hj
    rw [Rcv.set_at _ _ _ _ (by rw [hm.len]; have := hm.c8; omega), if_neg (by omega)]
    exact h i hi h8
  unfold takeM
  split
  · exact h i hi h8
  · rename_i f hf
    split
    · exact h i hi h8
    · rename_i he
      have hc : f.cid < m.cids := by
        by_cases e : f.cid < m.cids
        · exact e
        · exfalso
          apply he
          unfold takeE
          rw [hf]
          simp only
          rw [if_pos (by omega)]
      split
      · exact key _ _ hc
      · split
        · exact h i hi h8
        · exact key _ _ hc
structure EndsR (m : Rcv) (d : Doc) : Prop where
  ok : m.ok
  rel : RelR m d
  cids : d.cids = m.cids
  idle : Idle m
theorem freshR_rel {c k r : Nat} (h1 : 1 ≤ c) (h2 : c ≤ 8) : EndsR (freshR c) (docFresh c k r) :=
  ⟨freshR_ok h1 h2, ⟨by simp [docFresh, freshR], fun i hi => by rw [freshR_at, docFresh_at]; exact ⟨rfl, fun e => by simp [Rx.blank] at e, rfl, rfl, rfl, by decide⟩⟩, rfl, fun i _ _ => by rw [freshR_at]; rfl⟩
/-- what both tell -/
theorem relR_flows_upto {m : Rcv} {d : Doc} (h : RelR m d) : ∀ j, j ≤ m.cids → dflowsK d j = rflowsK m j ∧ dcountK d j = rcountK m j := by
  intro j
  induction j with
  | zero => intro _; exact ⟨rfl, rfl⟩
  | succ j ih =>
    intro hj
    obtain ⟨i1, i2⟩ := ih (by omega)
    have o := h.one j (by omega)
    simp only [dflowsK, dcountK, rflowsK, rcountK, i1, i2]
    by_cases hb : (m.at_ j).begun = true
    · have hs : (d.at_ j).sts = [(m.at_ j).st] := by rw [o.sts, if_pos hb]
      have hc : (d.at_ j).has = true ∧ (d.at_ j).sts ≠ [] := ⟨by rw [o.has]; exact hb, by rw [hs]; simp⟩
      rw [if_pos hc, if_pos hb, if_pos hc, if_pos hb]
      have e : dflowV j (d.at_ j) = rflowV j (m.at_ j) := by
        obtain ⟨r1, r2, r3, r4⟩ := o.rt hb
        unfold dflowV rflowV
        rw [hs, r1, r2, r3, r4, o.missed, o.sent, Nat.zero_add]
        rfl
      rw [e]
      exact ⟨rfl, rfl⟩
    · have hc : ¬ ((d.at_ j).has = true ∧ (d.at_ j).sts ≠ []) := fun e => hb (by rw [← o.has]; exact e.1)
      rw [if_neg hc, if_neg hb, if_neg hc, if_neg hb]
      exact ⟨rfl, rfl⟩
theorem idle_flows {m : Rcv} (hi : Idle m) : ∀ n, m.cids + n ≤ 8 → rflowsK m (m.cids + n) = rflowsK m m.cids ∧ rcountK m (m.cids + n) = rcountK m m.cids := by
  intro n
  induction n with
  | zero => intro _; exact ⟨rfl, rfl⟩
  | succ n ih =>
    intro hn
    obtain ⟨i1, i2⟩ := ih (by omega)
    have e := hi (m.cids + n) (by omega) (by omega)
    rw [← Nat.add_assoc]
    simp only [rflowsK, rcountK, i1, i2, e]
    simp
theorem EndsR.flows {m : Rcv} {d : Doc} (h : EndsR m d) : dflowsK d d.cs.length = rflowsK m 8 ∧ dcountK d d.cs.length = rcountK m 8 := by
  have m8 := h.ok.c8
  have a := relR_flows_upto h.rel m.cids (Nat.le_refl _)
  have b := idle_flows h.idle (8 - m.cids) (by omega)
  rw [show m.cids + (8 - m.cids) = 8 by omega] at b
  rw [h.rel.len, b.1, b.2]
  exact a
theorem EndsR.fine {m : Rcv} {d : Doc} (h : EndsR m d) : ∀ i, i < d.cs.length → (d.at_ i).fine := by
  intro i hi
  have o := h.rel.one i (by rw [← h.rel.len]; exact hi)
  have c := Rcv.at_ok h.ok i
  refine ⟨o.tn, fun s hs => ?_, by rw [o.sent, o.missed]; have := c.missed; omega⟩
  rw [o.sts] at hs
  split at hs
  · simp at hs
    rw [hs]
    exact c.st
  · simp at hs

/-- a receiver's ends in memory -/
structure RAt (B : Nat) (w : World) (gr gy ge gl : Nat) (m : Rcv) (d : Doc) : Prop where
  pair : w.heap[gr]? = some (.cells #[.pointer none, .pointer (some ⟨gy, 0, none⟩), .pointer (some ⟨ge, 0, none⟩)] 60 (0, 0))
  rcv : RcvAt w gy m
  doc : DocAt w ge gl d
  sts : StsIn w B d
  ls : B ≤ gy
  le : B ≤ ge
  ll : B ≤ gl
theorem RAt.onlyT {ts : List TypeId} {B : Nat} {w w' : World} {gr gy ge gl : Nat} {m : Rcv} {d : Doc} (h : RAt B w gr gy ge gl m d) (o : OnlyT ts w w') (h1 : 60 ∉ ts) (h2 : 118 ∉ ts) (h3 : 86 ∉ ts) (h4 : 109 ∉ ts) (h5 : 111 ∉ ts) : RAt B w' gr gy ge gl m d :=
  ⟨o.keep h.pair h1, o.keep h.rcv h2, ⟨o.keep h.doc.head h3, o.keep h.doc.rows h4, h.doc.sl⟩, h.sts.same (fun q cs hq => o.block q cs _ _ hq h5), h.ls, h.le, h.ll⟩
theorem RAt.grew {B : Nat} {w w' : World} {gr gy ge gl : Nat} {m : Rcv} {d : Doc} (h : RAt B w gr gy ge gl m d) (hb : Below w.heap.size w w') : RAt B w' gr gy ge gl m d :=
  h.onlyT (OnlyT.of_below (ts := []) hb) (by simp) (by simp) (by simp) (by simp) (by simp)
theorem RAt.rest {S : Nat → Prop} {B : Nat} {w w' : World} {gr gy ge gl : Nat} {m : Rcv} {d : Doc} (h : RAt B w gr gy ge gl m d) (o : Only S w w') (hS : ∀ k, S k → ∃ cs t fr, w.heap[k]? = some (.cells cs t fr) ∧ t ≠ 60 ∧ t ≠ 111)
    (h2 : ¬ S gy) (h3 : ¬ S ge) (h4 : ¬ S gl) : RAt B w' gr gy ge gl m d := by
  refine ⟨o.keep h.pair (fun e => ?_), o.keep h.rcv h2, ⟨o.keep h.doc.head h3, o.keep h.doc.rows h4, h.doc.sl⟩, h.sts.same (fun q cs hq => o.block q (block_lt hq) (fun e => ?_)), h.ls, h.le, h.ll⟩
  · obtain ⟨cs, t, fr, a, b, c⟩ := hS _ e
    rw [h.pair] at a
    simp at a
    exact b a.2.1.symm
  · obtain ⟨cs', t, fr, a, b, c⟩ := hS _ e
    rw [hq] at a
    simp at a
    exact c a.2.1.symm
theorem RAt.dn {B B' : Nat} {w : World} {gr gy ge gl : Nat} {m : Rcv} {d : Doc} (h : RAt B w gr gy ge gl m d) (hb : B' ≤ B) : RAt B' w gr gy ge gl m d :=
  ⟨h.pair, h.rcv, h.doc, fun i hi => ⟨own_dn (h.sts i hi).1 hb, (h.sts i hi).2⟩, Nat.le_trans hb h.ls, Nat.le_trans hb h.le, Nat.le_trans hb h.ll⟩

end Go.Proofs.YtgpojbgjfibblaaGreat.texts

namespace Go.Proofs.YtgpojbgjfibblaaGreat.texts
open Go.RowKit
set_option linter.unusedVariables false
attribute [local go_sem ↓] Go.wp_at_zero Go.wp_at_succ
attribute [local go_sem] bs_size bs_append List.length_append bs_extract bs_list bs_toList

/-- the blocks that a take turns -/
def takeS (wd gy gl : Nat) (k : Nat) : Prop := k = wd ∨ k = gy ∨ k = gl
def TookPost (B : Nat) (w : World) (wd gp gB gr gy ge gl : Nat) (vs : Value) (fs : List (List UInt8)) (bk : List UInt8) (w' : World) : Prop :=
  ∃ m' d' bk', EndsR m' d' ∧ RAt B w' gr gy ge gl m' d' ∧ WAt B w' wd gp gB (.pointer (some ⟨gr, 0, none⟩)) vs fs bk' ∧ (bk.length ≤ 1000 → bk'.length ≤ 1000) ∧ Only (takeS wd gy gl) w w'
theorem feed_len (e m c : Nat) : (feedN e m c).length ≤ 2 := by
  unfold feedN
  split
  · simp
  · unfold letterN
    split
    · split <;> simp [be_length]
    · split
      · simp [be_length]
      · split <;> simp [be_length]
theorem takeB_len (m : Rcv) (l : List UInt8) : (takeB m l).length ≤ 1000 := by
  unfold takeB
  split
  · simp
  · split
    · simp
    · rename_i f _ _
      have := feed_len (takeE m l) (((m.at_ f.cid).missed + 1) % 256) f.cid
      omega

set_option maxRecDepth 100000 in
set_option maxHeartbeats 4000000 in
theorem wtake_any (B : Nat) (wd gp gB gr gy ge gl : Nat) (vs : Value) (fs : List (List UInt8)) (bk : List UInt8) (m : Rcv) (d : Doc) (l : List UInt8) (w : World) (hW : WAt B w wd gp gB (.pointer (some ⟨gr, 0, none⟩)) vs fs bk) (hS : RAt B w gr gy ge gl m d) (hE : EndsR m d) (hl : l.length ≤ 9223372036854775807) :
    Calls Tryz.prog 16 #[.pointer (some ⟨wd, 0, none⟩), .string (bs l)] w fun e w' => e = .returned (.bool true) ∧ TookPost B w wd gp gB gr gy ge gl vs fs bk w' := by
  have HW := hide hW
  have HS := hide hS
  have HE := hide hE
  obtain ⟨P, hP⟩ : ∃ P, P = takeP m l := ⟨_, rfl⟩
  obtain ⟨T, hT⟩ : ∃ T, T = takeB m l := ⟨_, rfl⟩
  obtain ⟨N, hN⟩ : ∃ N, N = takeE m l := ⟨_, rfl⟩
  have HP := hide hP
  have HT := hide hT
  have HN := hide hN
  have c0 : w.cell? ⟨wd, 1, none⟩ = some (.pointer (some ⟨gr, 0, none⟩)) := block_cell hW.blk 1
  have c1 : w.cell? ⟨gr, 1, none⟩ = some (.pointer (some ⟨gy, 0, none⟩)) := block_cell hS.pair 1
  have hlw := hW.lw
  have hwd := block_lt hW.blk
  have hBw : B ≤ w.heap.size := by omega
  clear hW hS hE hP hT hN
  go_enter Tryz.func16, Tryz.ntmps16
  go_wp2_with fail
  go_at_call 31
  refine (gtake_any m gy l _ (unhide HE).ok (unhide HS).rcv hl).mono ?_
  rintro e w1 ⟨rfl, h1, h2⟩
  rw [← unhide HP, ← unhide HT, ← unhide HN]
  have oT : OnlyT [118] w w1 := OnlyT.of_only h2 (fun q e => by subst e; exact ⟨_, _, _, (unhide HS).rcv, by simp⟩)
  have S1 : RAt B w1 gr gy ge gl (takeM m l) d := ⟨oT.keep (unhide HS).pair (by decide), h1, ⟨oT.keep (unhide HS).doc.head (by decide), oT.keep (unhide HS).doc.rows (by decide), (unhide HS).doc.sl⟩, (unhide HS).sts.same (fun q cs hq => oT.block q cs _ _ hq (by decide)), (unhide HS).ls, (unhide HS).le, (unhide HS).ll⟩
  have W1 := (unhide HW).onlyT oT (by decide) (by decide)
  have c0 : w1.cell? ⟨wd, 1, none⟩ = some (.pointer (some ⟨gr, 0, none⟩)) := block_cell W1.blk 1
  have c2 : w1.cell? ⟨gr, 2, none⟩ = some (.pointer (some ⟨ge, 0, none⟩)) := block_cell S1.pair 2
  have HS1 := hide S1
  have HW1 := hide W1
  have HO1 := hide h2
  have hz1 := h2.size
  have hwd1 := block_lt W1.blk
  have hgr1 := block_lt S1.pair
  clear h1 h2 oT S1 W1 c1
  unfold Pk.cells
  go_wp2_with fail
  have PB1 := hide (heap_alloc_new w1 (.cells P.cells 41))
  have ba : Below w1.heap.size w1 (w1.alloc (.cells P.cells 41)) := (Below.refl _ _).alloc (Nat.le_refl _) _
  have S2 := (unhide HS1).grew ba
  have HW2 := hide ((unhide HW1).grew ba)
  go_at_call 32
  refine (dtake_any m d l ge gl B _ (unhide HE).ok (unhide HE).rel (unhide HE).cids S2.doc S2.sts (by simp; omega) hl).mono ?_
  rintro e w2 ⟨he, d', r1, r2, r3, r4, r5⟩
  subst he
  rw [← unhide HP, ← unhide HT, ← unhide HN]
  have oT : OnlyT [109] (w1.alloc (.cells P.cells 41)) w2 := OnlyT.of_only r5 (fun q e => by subst e; exact ⟨_, _, _, S2.doc.rows, by simp⟩)
  have PB2 := oT.keep (unhide PB1) (by decide)
  have S3 : RAt B w2 gr gy ge gl (takeM m l) d' := ⟨oT.keep S2.pair (by decide), oT.keep S2.rcv (by decide), r3, r4, S2.ls, S2.le, S2.ll⟩
  have W3 := (unhide HW2).onlyT oT (by decide) (by decide)
  have E3 : EndsR (takeM m l) d' := ⟨take_ok2 (unhide HE).ok l, r1, by rw [takeM_cids]; exact r2, idle_take (unhide HE).ok (unhide HE).idle l⟩
  have O3 : Only (takeS wd gy gl) w w2 := ((unhide HO1).mono (fun q e => Or.inr (Or.inl e))).trans ((Only.of_below ba).trans (r5.mono (fun q e => Or.inr (Or.inr e))))
  have b0 : w2.cell? ⟨w1.heap.size, 0, none⟩ = some (.int .u32 (P.src : Int)) := block_cell PB2 0
  have b1 : w2.cell? ⟨w1.heap.size, 1, none⟩ = some (.int .u32 (P.dst : Int)) := block_cell PB2 1
  have b2 : w2.cell? ⟨w1.heap.size, 2, none⟩ = some (.int .u16 (P.port : Int)) := block_cell PB2 2
  have b3 : w2.cell? ⟨w1.heap.size, 3, none⟩ = some (.int .u16 (P.seq : Int)) := block_cell PB2 3
  have b4 : w2.cell? ⟨w1.heap.size, 4, none⟩ = some (.int .u32 (P.time : Int)) := block_cell PB2 4
  have b5 : w2.cell? ⟨w1.heap.size, 5, none⟩ = some (.int .u16 (P.id : Int)) := block_cell PB2 5
  have b6 : w2.cell? ⟨w1.heap.size, 6, none⟩ = some (.int .u8 (P.flags : Int)) := block_cell PB2 6
  have b7 : w2.cell? ⟨w1.heap.size, 7, none⟩ = some (.string (bs P.body)) := block_cell PB2 7
  have hw1 : w1.heap.size < w2.heap.size := block_lt PB2
  have hwd2 : wd < w2.heap.size := block_lt W3.blk
  have hne : wd ≠ w1.heap.size := by omega
  have d3 : w2.cell? ⟨wd, 3, none⟩ = some (.string (bs bk)) := block_cell W3.blk 3
  have f3 : w2.frozen? ⟨wd, 3, none⟩ = false := block_free W3.blk 3
  have hTl := takeB_len m l
  rw [← unhide HT] at hTl
  have HS3 := hide S3
  have HW3 := hide W3
  have HE3 := hide E3
  have HO3 := hide O3
  clear r1 r2 r3 r4 r5 oT PB2 S3 W3 E3 O3 S2 c0 c2 PB1
  unfold Pk.cells
  by_cases hT0 : T = []
  · subst hT0
    have he0 : ((bs []).toList == ([] : List UInt8)) = true := by rw [bs_toList]; rfl
    go_wp2_with (go_at_call 13; refine (bits.num_any _ _).mono ?_; rintro e w5 ⟨rfl, h5⟩; have h5 := h5.symm; subst h5)
    go_ret
    have bb : Below w2.heap.size w2 (w2.alloc (.cells P.cells 41)) := (Below.refl _ _).alloc (Nat.le_refl _) _
    exact ⟨rfl, _, _, bk, unhide HE3, (unhide HS3).grew bb, (unhide HW3).grew bb, fun h => h, (unhide HO3).trans (Only.of_below bb)⟩
  · have he0 : ((bs T).toList == ([] : List UInt8)) = false := by
      rw [beq_eq_false_iff_ne, bs_toList]
      exact hT0
    have hTp : 0 < T.length := List.length_pos_iff.2 hT0
    have hTe : T.isEmpty = false := by cases T with | nil => exact absurd rfl hT0 | cons a b => rfl
    go_wp2_with (go_at_call 13; refine (bits.num_any _ _).mono ?_; rintro e w5 ⟨rfl, h5⟩; have h5 := h5.symm; subst h5)
    go_ret
    have W4 := unhide HW3
    have p5 : OnlyT [62] w2 (w2.setCell ⟨wd, 3, none⟩ (.string (bs T))) := OnlyT.cell W4.blk (by simp) _
    have W5 : WAt B (w2.setCell ⟨wd, 3, none⟩ (.string (bs T))) wd gp gB (.pointer (some ⟨gr, 0, none⟩)) vs fs T := ⟨block_put W4.blk 3 _, p5.own W4.sent (by decide), hlw⟩
    have S5 := (unhide HS3).onlyT p5 (by decide) (by decide) (by decide) (by decide) (by decide)
    have O5 : Only (takeS wd gy gl) w (w2.setCell ⟨wd, 3, none⟩ (.string (bs T))) := Only.setCell (S := takeS wd gy gl) (p := ⟨wd, 3, none⟩) (unhide HO3) (Or.inl rfl) _
    have bb : Below (w2.setCell ⟨wd, 3, none⟩ (.string (bs T))).heap.size (w2.setCell ⟨wd, 3, none⟩ (.string (bs T))) ((w2.setCell ⟨wd, 3, none⟩ (.string (bs T))).alloc (.cells P.cells 41)) := (Below.refl _ _).alloc (Nat.le_refl _) _
    exact ⟨rfl, _, _, T, unhide HE3, S5.grew bb, W5.grew bb, fun _ => hTl, O5.trans (Only.of_below bb)⟩

def lpickN (c : Int) (n : Nat) : Nat := ((if c < 0 then -(c + 1) else c) % (n : Int)).toNat
theorem lpickN_lt (c : Int) {n : Nat} (h : 1 ≤ n) : lpickN c n < n := by
  unfold lpickN
  have b1 := Int.emod_nonneg (if c < 0 then -(c + 1) else c) (show (n : Int) ≠ 0 by omega)
  have b2 := Int.emod_lt_of_pos (if c < 0 then -(c + 1) else c) (show (0 : Int) < n by omega)
  omega
set_option maxRecDepth 100000 in
set_option maxHeartbeats 1000000 in
theorem lpick_any (c : Int) (n : Nat) (w : World) (h0 : -9223372036854775808 ≤ c) (h1 : c ≤ 9223372036854775807) (hn : 1 ≤ n) (hn2 : n ≤ 1073741824) :
    Calls Tryz.prog 33 #[.int .i64 c, .int .i64 n] w fun e w' => e = .returned (.int .i64 (lpickN c n : Nat)) ∧ w' = w := by
  unfold lpickN
  have nz : ¬ ((n : Int) = 0) := by omega
  by_cases hc : c < 0
  · rw [if_pos hc]
    obtain ⟨q, hq⟩ : ∃ q : Int, q = -(c + 1) := ⟨_, rfl⟩
    have w1 : IntKind.i64.wrap (c + 1) = c + 1 := by rw [IntKind.wrap_i64]; omega
    have w2 : IntKind.i64.wrap (-(c + 1)) = -(c + 1) := by rw [IntKind.wrap_i64]; omega
    have t1 : (-(c + 1)).tmod (n : Int) = (-(c + 1)) % (n : Int) := Int.tmod_eq_emod_of_nonneg (by omega)
    have b1 := Int.emod_nonneg (-(c + 1)) nz
    have b2 := Int.emod_lt_of_pos (-(c + 1)) (show (0 : Int) < n by omega)
    obtain ⟨r, hr⟩ : ∃ r : Int, r = (-(c + 1)) % (n : Int) := ⟨_, rfl⟩
    rw [← hr] at t1 b1 b2
    have w3 : IntKind.i64.wrap r = r := by rw [IntKind.wrap_i64]; omega
    rw [← hr, Int.toNat_of_nonneg b1]
    clear hr hq
    go_enter Tryz.func33, Tryz.ntmps33
    go_wp2
    go_ret
    exact ⟨rfl, rfl⟩
  · rw [if_neg hc]
    have t1 : c.tmod (n : Int) = c % (n : Int) := Int.tmod_eq_emod_of_nonneg (by omega)
    have b1 := Int.emod_nonneg c nz
    have b2 := Int.emod_lt_of_pos c (show (0 : Int) < n by omega)
    obtain ⟨r, hr⟩ : ∃ r : Int, r = c % (n : Int) := ⟨_, rfl⟩
    rw [← hr] at t1 b1 b2
    have w3 : IntKind.i64.wrap r = r := by rw [IntKind.wrap_i64]; omega
    rw [← hr, Int.toNat_of_nonneg b1]
    clear hr
    go_enter Tryz.func33, Tryz.ntmps33
    go_wp2
    go_ret
    exact ⟨rfl, rfl⟩

set_option maxRecDepth 100000 in
set_option maxHeartbeats 2000000 in
theorem spoilt_any (f s : List UInt8) (w : World) (hf : f.length ≤ 1000) (hs : s.length ≤ maxLen) :
    Calls Tryz.prog 34 #[.string (bs f), .string (bs s)] w fun e w' => (∃ t : List UInt8, t.length ≤ 1000 ∧ e = .returned (.string (bs t))) ∧ Below w.heap.size w w' := by
  have hsI : (s.length : Int) ≤ 9223372036854775807 := by unfold maxLen at hs; omega
  by_cases h2 : s.length < 2
  · have h2I : (s.length : Int) < 2 := by omega
    go_enter Tryz.func34, Tryz.ntmps34
    go_wp2
    go_ret
    exact ⟨⟨f, hf, rfl⟩, Below.refl _ _⟩
  · have h2I : ¬ ((s.length : Int) < 2) := by omega
    by_cases h0 : f = []
    · subst h0
      have he0 : ((bs []).toList == ([] : List UInt8)) = true := by rw [bs_toList]; rfl
      go_enter Tryz.func34, Tryz.ntmps34
      go_wp2
      go_ret
      exact ⟨⟨[], by simp, rfl⟩, Below.refl _ _⟩
    · have he0 : ((bs f).toList == ([] : List UInt8)) = false := by
        rw [beq_eq_false_iff_ne, bs_toList]
        exact h0
      have hfp : 0 < f.length := List.length_pos_iff.2 h0
      have hfe : f.isEmpty = false := by cases f with | nil => exact absurd rfl h0 | cons a b => rfl
      have s0 : 0 < (bs s).size := by rw [bs_size]; omega
      have b0 := byte_at s 0 (by omega) s0
      have l0 := byteN_lt s 0
      obtain ⟨Q, hQ⟩ : ∃ Q, Q = byteN s 0 := ⟨_, rfl⟩
      rw [← hQ] at b0 l0
      obtain ⟨a, ha⟩ : ∃ a : Nat, a = Q % f.length := ⟨_, rfl⟩
      have hal : a < f.length := by rw [ha]; exact Nat.mod_lt _ hfp
      have t1 : (Q : Int).tmod (f.length : Int) = (a : Int) := by rw [ha, Int.tmod_eq_emod_of_nonneg (by omega)]; simp
      have nz : ¬ ((f.length : Int) = 0) := by omega
      have w1 : IntKind.i64.wrap (a : Int) = (a : Int) := by rw [IntKind.wrap_i64]; omega
      have w2 : IntKind.i64.wrap ((a : Int) + 1) = (a : Int) + 1 := by rw [IntKind.wrap_i64]; omega
      have i0 : (0 : Int) ≤ (a : Int) := by omega
      have i1 : (a : Int) ≤ (f.length : Int) := by omega
      have i2 : (0 : Int) ≤ (a : Int) + 1 := by omega
      have i3 : (a : Int) + 1 ≤ (f.length : Int) := by omega
      have i4 : (2 : Int) ≤ (s.length : Int) := by omega
      clear hQ ha h0
      go_enter Tryz.func34, Tryz.ntmps34
      go_wp2_with fail
      go_quiet (fail)
      all_goals go_wp2
      all_goals go_ret
      all_goals exact ⟨⟨_, by simp only [List.length_append, List.length_take, List.length_tail, List.length_drop]; omega, rfl⟩, below_drewN (Below.refl _ _) _⟩

set_option maxRecDepth 100000 in
set_option maxHeartbeats 4000000 in
theorem wpassed_any (B : Nat) (wd gp gB gr gy ge gl : Nat) (vs : Value) (fs : List (List UInt8)) (bk : List UInt8) (m : Rcv) (d : Doc) (o : Oq) (w : World) (hW : WAt B w wd gp gB (.pointer (some ⟨gr, 0, none⟩)) vs fs bk) (hS : RAt B w gr gy ge gl m d) (hE : EndsR m d) (ho : o.ok) (hfs : ∀ f ∈ fs, f.length ≤ 1000) (hfl : fs.length ≤ 1073741824) :
    Calls Tryz.prog 17 #[.pointer (some ⟨wd, 0, none⟩), .agg o.cells] w fun e w' => e = .returned (.bool true) ∧ TookPost B w wd gp gB gr gy ge gl vs fs bk w' := by
  obtain ⟨ao, cap, rfl⟩ := own_sl hW.sent
  have HW := hide hW
  have HS := hide hS
  have HE := hide hE
  have HF := hide hfs
  have c2 : w.cell? ⟨wd, 2, none⟩ = some (.slice ao fs.length cap) := block_cell hW.blk 2
  have hwd := block_lt hW.blk
  have ba : Below w.heap.size w (w.alloc (.cells o.cells 43)) := (Below.refl _ _).alloc (Nat.le_refl _) _
  have HBA := hide ba
  have OB := hide (heap_alloc_new w (.cells o.cells 43))
  obtain ⟨k0, k1, k2, k3⟩ := ho
  have K3 := hide k3
  clear hW hS hE hfs ba k2 k3
  obtain ⟨K, n, p, s⟩ := o
  simp only at k0 k1 K3
  unfold Oq.cells at *
  simp only at *
  by_cases h0 : fs.length = 0
  · rw [h0] at c2
    go_enter Tryz.func17, Tryz.ntmps17
    go_wp2
    go_ret
    exact ⟨rfl, m, d, bk, unhide HE, (unhide HS).grew (unhide HBA), (unhide HW).grew (unhide HBA), fun h => h, Only.of_below (unhide HBA)⟩
  · obtain ⟨sb, hao, hcells⟩ : ∃ sb, ao = some ⟨sb, 0, none⟩ ∧ ∀ i (hi : i < fs.length), w.cell? ⟨sb, i, none⟩ = some (.string (bs fs[i])) := by
      rcases (unhide HW).sent.2 with ⟨_, h1⟩ | ⟨g, cap', cur, h1, _⟩
      · omega
      · simp at h1
        refine ⟨g, h1.1, fun i hi => ?_⟩
        have := (unhide HW).sent
        rw [h1.1] at this
        rw [this.cellAt i (by omega)]
        simp [strs, List.getElem?_eq_getElem hi]
    subst hao
    obtain ⟨i, hi⟩ : ∃ i, i = lpickN n fs.length := ⟨_, rfl⟩
    have hil : i < fs.length := by rw [hi]; exact lpickN_lt n (by omega)
    obtain ⟨F, hF⟩ : ∃ F, F = fs[i] := ⟨_, rfl⟩
    have cf := hcells i hil
    rw [← hF] at cf
    have hFl : F.length ≤ 1000 := by rw [hF]; exact unhide HF _ (List.getElem_mem hil)
    have hsb := lt_of_cell cf
    have HPK := hide (show ∀ w : World, Calls Tryz.prog 33 #[.int .i64 n, .int .i64 fs.length] w fun e w' => e = .returned (.int .i64 (i : Nat)) ∧ w' = w by
      intro w; rw [hi]; exact lpick_any n fs.length w k1.1 k1.2 (by omega) hfl)
    have i0 : (0 : Int) ≤ (i : Int) := by omega
    have i1 : (i : Int) < (fs.length : Int) := by omega
    have nz : ¬ ((fs.length : Int) = 0) := by omega
    have C2 := hide c2
    clear hi hcells hF h0
    have c2a : (w.alloc (.cells #[.int .i64 K, .int .i64 n, .int .u32 (p.src : Int), .int .u32 (p.dst : Int), .int .u16 (p.port : Int), .int .u16 (p.seq : Int), .int .u32 (p.time : Int), .int .u16 (p.id : Int), .int .u8 (p.flags : Int), .string (bs p.body), .string (bs s)] 43)).cell? ⟨wd, 2, none⟩ = some (.slice (some ⟨sb, 0, none⟩) fs.length cap) := keep_cell c2 (unhide HBA)
    go_enter Tryz.func17, Tryz.ntmps17
    go_upto_region 3 with fail
    have CF := hide (keep_cell cf (unhide HBA))
    clear c2 cf hwd hsb
    generalize w.alloc (.cells #[.int .i64 K, .int .i64 n, .int .u32 (p.src : Int), .int .u32 (p.dst : Int), .int .u16 (p.port : Int), .int .u16 (p.seq : Int), .int .u32 (p.time : Int), .int .u16 (p.id : Int), .int .u8 (p.flags : Int), .string (bs p.body), .string (bs s)] 43) = wa at *
    have cf := unhide CF
    have o1 : wa.cell? ⟨w.heap.size, 1, none⟩ = some (.int .i64 n) := block_cell (unhide OB) 1
    have cfd : wa.drew.cell? ⟨sb, i, none⟩ = some (.string (bs F)) := cf
    have o1d : wa.drew.cell? ⟨w.heap.size, 1, none⟩ = some (.int .i64 n) := o1
    have c2d : wa.drew.cell? ⟨wd, 2, none⟩ = some (.slice (some ⟨sb, 0, none⟩) fs.length cap) := c2a
    go_cut [5] (fun v wx => v = .string (bs F) ∧ Below wa.heap.size wa wx)
    case first =>
      go_region_with ((go_at_call 33; refine (unhide HPK _).mono ?_; rintro e w5 ⟨rfl, h5⟩; have h5 := h5.symm; subst h5))
      all_goals go_wp2_with fail
      all_goals go_meet
      all_goals (case rel => exact ⟨rfl, (Below.refl _ _).drew⟩)
    case rest =>
      obtain ⟨rfl, hb5⟩ := hcut
      have HB5 := hide (grew_call (unhide HBA) hb5)
      have OB5 := block_keep (unhide OB) hb5
      have o0 : wc.cell? ⟨w.heap.size, 0, none⟩ = some (.int .i64 K) := block_cell OB5 0
      have o10 : wc.cell? ⟨w.heap.size, 10, none⟩ = some (.string (bs s)) := block_cell OB5 10
      clear hb5 OB5 cf cfd o1 o1d c2a c2d CF
      have HTK := hide (show ∀ (W : World) (t : List UInt8), t.length ≤ 1000 → Below w.heap.size w W → Calls Tryz.prog 16 #[.pointer (some ⟨wd, 0, none⟩), .string (bs t)] W fun e w' => e = .returned (.bool true) ∧ TookPost B w wd gp gB gr gy ge gl (.slice (some ⟨sb, 0, none⟩) fs.length cap) fs bk w' by
        intro W t ht hW
        refine (wtake_any B wd gp gB gr gy ge gl _ fs bk m d t W ((unhide HW).grew hW) ((unhide HS).grew hW) (unhide HE) (by omega)).mono ?_
        rintro e w' ⟨rfl, m', d', bk', r1, r2, r3, r4, r5⟩
        exact ⟨rfl, m', d', bk', r1, r2, r3, r4, (Only.of_below hW).trans r5⟩)
      by_cases h7 : K = 7
      · subst h7
        go_wp2_with (first
          | (go_at_call 34; refine (spoilt_any F s _ hFl (unhide K3)).mono ?_; rintro e w6 ⟨⟨t, ht, rfl⟩, hb6⟩; have HB6 := hide (grew_call (unhide HB5) hb6); clear hb6)
          | (go_at_call 16; refine (unhide HTK _ t ht (unhide HB6)).mono ?_; rintro e w7 ⟨rfl, h7⟩; have H7 := hide h7; clear h7))
        go_ret
        exact ⟨rfl, unhide H7⟩
      · have h7I : ¬ (K = 7) := h7
        have h7b : (K == 7) = false := beq_eq_false_iff_ne.2 h7
        go_wp2_with (go_at_call 16; refine (unhide HTK _ F hFl (unhide HB5)).mono ?_; rintro e w7 ⟨rfl, h7'⟩; have H7 := hide h7'; clear h7')
        go_ret
        exact ⟨rfl, unhide H7⟩

end Go.Proofs.YtgpojbgjfibblaaGreat.texts

namespace Go.Proofs.YtgpojbgjfibblaaGreat.texts
open Go.RowKit
set_option linter.unusedVariables false
attribute [local go_sem ↓] Go.wp_at_zero Go.wp_at_succ
attribute [local go_sem] bs_size

set_option maxRecDepth 100000 in
set_option maxHeartbeats 8000000 in
theorem wtold_rcv (B : Nat) (wd gp gB gr gy ge gl : Nat) (vs : Value) (fs : List (List UInt8)) (bk : List UInt8) (m : Rcv) (d : Doc) (vF vM vT vN : Value) (next : Int) (K : List (Value × Int)) (w : World) (hW : WAt B w wd gp gB (.pointer (some ⟨gr, 0, none⟩)) vs fs bk) (hS : RAt B w gr gy ge gl m d) (hE : EndsR m d)
    (hK : BkAt B w gB vF vM vT vN next K) (hFS : FShorts K) (hlen : K.length ≤ 268435456) (h0 : -268435456 ≤ next) (h1 : next ≤ 268435456) :
    Calls Tryz.prog 9 #[.pointer (some ⟨wd, 0, none⟩), .bool false] w fun e w' => e = .returned (.bool true) ∧ ToldPost B w gB vT vN next K w' := by
  have HW := hide hW
  have HS := hide hS
  have HE := hide hE
  have HK := hide hK
  have HFS := hide hFS
  have hBw : B ≤ w.heap.size := by have := block_lt hK.blk; have := hK.low; omega
  have hc8 := hE.ok.c8
  obtain ⟨f1, f2⟩ := hE.flows
  have F1 := hide f1
  have F2 := hide f2
  have c0 : w.cell? ⟨wd, 1, none⟩ = some (.pointer (some ⟨gr, 0, none⟩)) := block_cell hW.blk 1
  have c1 : w.cell? ⟨gr, 1, none⟩ = some (.pointer (some ⟨gy, 0, none⟩)) := block_cell hS.pair 1
  have c2 : w.cell? ⟨gr, 2, none⟩ = some (.pointer (some ⟨ge, 0, none⟩)) := block_cell hS.pair 2
  have c4 : w.cell? ⟨wd, 4, none⟩ = some (.pointer (some ⟨gB, 0, none⟩)) := block_cell hW.blk 4
  obtain ⟨hrows, hrl⟩ := rflows_rows m 8
  have hcn := rcountK_le m 8
  obtain ⟨C, hC⟩ : ∃ C, C = rcountK m 8 := ⟨_, rfl⟩
  obtain ⟨X, hX⟩ : ∃ X, X = rflowsK m 8 := ⟨_, rfl⟩
  rw [← hC] at hrows hcn
  rw [← hX] at hrows
  have HR := hide hrows
  have HC := hide hC
  have HX := hide hX
  have C0 := hide c0
  have C1 := hide c1
  have C2 := hide c2
  have C4 := hide c4
  have HD8 := hide (show d.cs.length ≤ 8 by rw [hE.rel.len]; exact hc8)
  clear hW hS hE hK hFS f1 f2 hrows hrl hC hX
  go_enter Tryz.func9, Tryz.ntmps9
  go_wp2_with fail
  go_at_call 21
  refine (grflows_any m gy _ (unhide HE).ok (unhide HS).rcv).mono ?_
  rintro e w1 ⟨l, rfl, o1, b1⟩
  rw [← unhide HC, ← unhide HX] at o1
  have HO1 := hide o1
  have HB1 := hide b1
  have c0 := keep_cell (unhide C0) b1
  have c1 := keep_cell (unhide C1) b1
  clear o1 b1
  go_wp2_with fail
  go_at_call 21
  refine (grflows_any m gy _ (unhide HE).ok ((unhide HS).grew (unhide HB1)).rcv).mono ?_
  rintro e w2 ⟨q, rfl, o2, b2⟩
  rw [← unhide HC, ← unhide HX] at o2
  have HO2 := hide o2
  have HO1' := hide (own_same (unhide HO1) (fun g hg => by obtain ⟨cur, hc⟩ := own_ty (unhide HO1) hg; exact b2.block g (block_lt hc)))
  have HQ := hide (fun g hg g' hg' => by
    have h1 := ((unhide HO1).lt g hg).2
    have h2 := (o2.lt g' hg').1
    omega : ∀ g, l.ownBlock = some g → ∀ g', q.ownBlock = some g' → g ≠ g')
  have HB2 := hide (grew_call (unhide HB1) b2)
  have hz1 := (unhide HB1).size
  have c0 := keep_cell (unhide C0) (unhide HB2)
  have c2 := keep_cell (unhide C2) (unhide HB2)
  clear o2 b2 c1 HO1 HB1
  go_wp2_with fail
  go_at_call 20
  refine (dflows_any d ge gl _ ((unhide HS).grew (unhide HB2)).doc (fun i hi => StsAt.of_own (((unhide HS).grew (unhide HB2)).sts i hi).1 (by have := (((unhide HS).grew (unhide HB2)).sts i hi).2; omega)) (unhide HE).fine (unhide HD8)).mono ?_
  rintro e w3 ⟨r, rfl, o3, b3⟩
  rw [unhide F1, unhide F2, ← unhide HC, ← unhide HX] at o3
  have HO3 := hide o3
  have HO1 := hide (own_same (unhide HO1') (fun g hg => by obtain ⟨cur, hc⟩ := own_ty (unhide HO1') hg; exact b3.block g (block_lt hc)))
  have HO2' := hide (own_same (unhide HO2) (fun g hg => by obtain ⟨cur, hc⟩ := own_ty (unhide HO2) hg; exact b3.block g (block_lt hc)))
  have HB3 := hide (grew_call (unhide HB2) b3)
  obtain ⟨al, cl, hl⟩ := own_sl (unhide HO1)
  obtain ⟨aq, cq, hq⟩ := own_sl (unhide HO2')
  obtain ⟨ar, cr, hr⟩ := own_sl o3
  have Hl := hide hl
  have Hq := hide hq
  clear o3 b3 c0 c2 HO1' HO2 HB2 hl hq hr
  go_wp2_with fail
  go_at_call 22
  refine (sameFlows_any _ l r C _ _ X (unhide HO1) (unhide HO3) (unhide HR) (by omega)).mono ?_
  rintro e w4 ⟨rfl, b4⟩
  have HB4 := hide b4
  clear b4
  go_wp2_with fail
  go_at_call 22
  refine (sameFlows_any _ q r C _ _ X (own_same (unhide HO2') (fun g hg => by obtain ⟨cur, hc⟩ := own_ty (unhide HO2') hg; exact (unhide HB4).block g (block_lt hc))) (own_same (unhide HO3) (fun g hg => by obtain ⟨cur, hc⟩ := own_ty (unhide HO3) hg; exact (unhide HB4).block g (block_lt hc))) (unhide HR) (by omega)).mono ?_
  rintro e w5 ⟨rfl, b5⟩
  have HB45 := hide (grew_call (unhide HB4) b5)
  have HB5 := hide (grew_call (unhide HB3) (unhide HB45))
  have L5 := hide (own_dn (own_same (unhide HO1) (fun g hg => by obtain ⟨cur, hc⟩ := own_ty (unhide HO1) hg; exact (unhide HB45).block g (block_lt hc))) hBw)
  have Q5 := hide (own_dn (own_same (unhide HO2') (fun g hg => by obtain ⟨cur, hc⟩ := own_ty (unhide HO2') hg; exact (unhide HB45).block g (block_lt hc))) (Nat.le_trans hBw hz1))
  have lnew := hide (fun g hg => ((unhide HO1).lt g hg).1 : ∀ g, l.ownBlock = some g → w.heap.size ≤ g)
  have qnew := hide (fun g hg => Nat.le_trans hz1 ((unhide HO2').lt g hg).1 : ∀ g, q.ownBlock = some g → w.heap.size ≤ g)
  have c4 := keep_cell (unhide C4) (unhide HB5)
  clear b5 HO1 HO2' HO3 HB3 HB4 HB45
  go_wp2_with fail
  go_at_call 23
  refine (fowns_any B _ gB vF vM vT vN next K l C X ((unhide HK).grew (unhide HB5)) (by omega) (by omega) (by omega) (unhide L5) (by omega) (fun e he g hg h2 => by have h3 := unhide lnew g hg; have h4 := bk_old (unhide HK) he h2; omega)).mono ?_
  rintro e w6 ⟨rfl, vF6, vM6, K6, k6, n6, s6, nw6, b6, t6⟩
  have HK6 := hide k6
  have HS6 := hide (s6 (unhide HFS))
  have HNW := hide nw6
  have HB6 := hide b6
  have HT6 := hide t6
  have W6 := ((unhide HW).grew (unhide HB5)).onlyT t6.onlyT (by decide) (by decide)
  have c4 : w6.cell? ⟨wd, 4, none⟩ = some (.pointer (some ⟨gB, 0, none⟩)) := block_cell W6.blk 4
  have Q6 := hide (own_same (unhide Q5) (fun g hg => by
    obtain ⟨cur, hc⟩ := own_ty (unhide Q5) hg
    exact t6.flow g cur _ hc (fun e => unhide HQ g e g hg rfl)))
  have QK := hide (fun e he g hg h2 => by
    obtain ⟨cur, hc⟩ := own_ty (unhide Q5) hg
    have hlt := block_lt hc
    rcases nw6 e he with h3 | h3 | h3
    · have h4 := bk_old (unhide HK) h3 h2
      have h5 := unhide qnew g hg
      omega
    · rw [h2] at h3
      exact unhide HQ g h3.symm g hg rfl
    · have := h3 g h2
      omega : ∀ e ∈ K6, ∀ g, q.ownBlock = some g → e.1.ownBlock ≠ some g)
  clear k6 s6 nw6 b6 t6 W6 L5 Q5 HNW HQ
  go_wp2_with fail
  go_at_call 23
  refine (fowns_any B _ gB vF6 vM6 vT vN (next - 1) K6 q C X (unhide HK6) (by omega) (by omega) (by omega) (unhide Q6) (by omega) (unhide QK)).mono ?_
  rintro e w7 ⟨rfl, vF7, vM7, K7, k7, n7, s7, nw7, b7, t7⟩
  have fin := hide (show ToldPost B w gB vT vN next K w7 from ⟨vF7, vM7, K7, by rw [show next - 2 = next - 1 - 1 by omega]; exact k7, by omega, s7 (unhide HS6), ((unhide HB5).mono hBw).trans ((unhide HB6).trans b7), (OnlyT.of_below (unhide HB5)).trans ((unhide HT6).onlyT.trans t7.onlyT)⟩)
  clear k7 n7 s7 nw7 b7 t7 Q6 QK HK6 HS6 HB6 HT6
  go_wp2
  go_ret
  exact ⟨rfl, unhide fin⟩


set_option maxRecDepth 100000 in
set_option maxHeartbeats 2000000 in
theorem step_hears (o : Oq) (wd : Nat) (w : World) (Q : Bool → World → Prop) (hk : o.kind = 3) (bk : List UInt8) (hb : w.cell? ⟨wd, 3, none⟩ = some (.string (bs bk))) (h : Calls Tryz.prog 15 #[.pointer (some ⟨wd, 0, none⟩), .string (bs bk)] (w.alloc (.cells o.cells 43)) (Hands Q)) :
    Calls Tryz.prog 7 #[.pointer (some ⟨wd, 0, none⟩), .agg o.cells] w (Hands Q) := by
  have H := hide h
  clear h
  have hwl := lt_of_cell hb
  unfold Oq.cells
  rw [hk]
  go_enter Tryz.func7, Tryz.ntmps7
  go_wp2_with (go_at_call 15; refine Stop.out ?_)
  refine ⟨?_⟩
  have h := unhide H
  unfold Oq.cells at h
  rw [hk] at h
  refine Calls.mono h ?_
  rintro e w1 ⟨v, rfl, h1⟩
  have H1 := hide h1
  clear h1 h H
  go_wp2_with fail
  go_ret
  exact ⟨v, rfl, unhide H1⟩

set_option maxRecDepth 100000 in
set_option maxHeartbeats 2000000 in
theorem step_take (o : Oq) (wd : Nat) (w : World) (Q : Bool → World → Prop) (hk : o.kind = 5) (h : Calls Tryz.prog 16 #[.pointer (some ⟨wd, 0, none⟩), .string (bs o.s)] (w.alloc (.cells o.cells 43)) (Hands Q)) :
    Calls Tryz.prog 7 #[.pointer (some ⟨wd, 0, none⟩), .agg o.cells] w (Hands Q) := by
  have H := hide h
  clear h
  unfold Oq.cells
  rw [hk]
  go_enter Tryz.func7, Tryz.ntmps7
  go_wp2_with (go_at_call 16; refine Stop.out ?_)
  refine ⟨?_⟩
  have h := unhide H
  unfold Oq.cells at h
  rw [hk] at h
  refine Calls.mono h ?_
  rintro e w1 ⟨v, rfl, h1⟩
  have H1 := hide h1
  clear h1 h H
  go_wp2_with fail
  go_ret
  exact ⟨v, rfl, unhide H1⟩

set_option maxRecDepth 100000 in
set_option maxHeartbeats 2000000 in
theorem step_pass (o : Oq) (wd : Nat) (w : World) (Q : Bool → World → Prop) (hk : o.kind = 6) (h : Calls Tryz.prog 17 #[.pointer (some ⟨wd, 0, none⟩), .agg o.cells] (w.alloc (.cells o.cells 43)) (Hands Q)) :
    Calls Tryz.prog 7 #[.pointer (some ⟨wd, 0, none⟩), .agg o.cells] w (Hands Q) := by
  have H := hide h
  clear h
  unfold Oq.cells
  rw [hk]
  go_enter Tryz.func7, Tryz.ntmps7
  go_wp2_with (go_at_call 17; refine Stop.out ?_)
  refine ⟨?_⟩
  have h := unhide H
  unfold Oq.cells at h
  rw [hk] at h
  refine Calls.mono h ?_
  rintro e w1 ⟨v, rfl, h1⟩
  have H1 := hide h1
  clear h1 h H
  go_wp2_with fail
  go_ret
  exact ⟨v, rfl, unhide H1⟩

set_option maxRecDepth 100000 in
set_option maxHeartbeats 2000000 in
theorem step_spoil (o : Oq) (wd : Nat) (w : World) (Q : Bool → World → Prop) (hk : o.kind = 7) (h : Calls Tryz.prog 17 #[.pointer (some ⟨wd, 0, none⟩), .agg o.cells] (w.alloc (.cells o.cells 43)) (Hands Q)) :
    Calls Tryz.prog 7 #[.pointer (some ⟨wd, 0, none⟩), .agg o.cells] w (Hands Q) := by
  have H := hide h
  clear h
  unfold Oq.cells
  rw [hk]
  go_enter Tryz.func7, Tryz.ntmps7
  go_wp2_with (go_at_call 17; refine Stop.out ?_)
  refine ⟨?_⟩
  have h := unhide H
  unfold Oq.cells at h
  rw [hk] at h
  refine Calls.mono h ?_
  rintro e w1 ⟨v, rfl, h1⟩
  have H1 := hide h1
  clear h1 h H
  go_wp2_with fail
  go_ret
  exact ⟨v, rfl, unhide H1⟩

set_option maxRecDepth 100000 in
set_option maxHeartbeats 2000000 in
theorem step_took (o : Oq) (wd : Nat) (w : World) (Q : Bool → World → Prop) (hk : o.kind = 8) (h : Calls Tryz.prog 9 #[.pointer (some ⟨wd, 0, none⟩), .bool false] (w.alloc (.cells o.cells 43)) (Hands Q)) :
    Calls Tryz.prog 7 #[.pointer (some ⟨wd, 0, none⟩), .agg o.cells] w (Hands Q) := by
  have H := hide h
  clear h
  unfold Oq.cells
  rw [hk]
  go_enter Tryz.func7, Tryz.ntmps7
  go_wp2_with (go_at_call 9; refine Stop.out ?_)
  refine ⟨?_⟩
  have h := unhide H
  unfold Oq.cells at h
  rw [hk] at h
  refine Calls.mono h ?_
  rintro e w1 ⟨v, rfl, h1⟩
  have H1 := hide h1
  clear h1 h H
  go_wp2_with fail
  go_ret
  exact ⟨v, rfl, unhide H1⟩

set_option maxRecDepth 100000 in
set_option maxHeartbeats 2000000 in
theorem ends_any (wd : Nat) (w : World) (Q1 Q2 : World → Prop) (h1 : Calls Tryz.prog 9 #[.pointer (some ⟨wd, 0, none⟩), .bool true] w fun e w' => e = .returned (.bool true) ∧ Q1 w')
    (h2 : ∀ w1, Q1 w1 → Calls Tryz.prog 9 #[.pointer (some ⟨wd, 0, none⟩), .bool false] w1 fun e w' => e = .returned (.bool true) ∧ Q2 w') :
    Calls Tryz.prog 25 #[.pointer (some ⟨wd, 0, none⟩)] w fun e w' => e = .returned (.bool true) ∧ Q2 w' := by
  have H1 := hide h1
  have H2 := hide h2
  clear h1 h2
  go_enter Tryz.func25, Tryz.ntmps25
  go_wp2_with fail
  go_at_call 9
  refine (unhide H1).mono ?_
  rintro e w1 ⟨rfl, q1⟩
  have HQ := hide (unhide H2 w1 q1)
  clear q1 H1 H2
  go_wp2_with fail
  go_at_call 9
  refine (unhide HQ).mono ?_
  rintro e w2 ⟨rfl, q2⟩
  have HR := hide q2
  clear q2 HQ
  go_wp2_with fail
  go_ret
  exact ⟨rfl, unhide HR⟩

def BegunPost (w : World) (gB c k r : Nat) (e : Ending) (w' : World) : Prop :=
  ∃ wd gp gs ge gl gr gy gf gm, e = .returned (.tuple #[.pointer (some ⟨wd, 0, none⟩), .bool true]) ∧ w.heap.size ≤ wd ∧ w.heap.size ≤ gs ∧ w.heap.size ≤ ge ∧ w.heap.size ≤ gl ∧ w.heap.size ≤ gy ∧ w.heap.size ≤ gf ∧ w.heap.size ≤ gm ∧ ge ≠ gf ∧ gl ≠ gm ∧
    WAt w.heap.size w' wd gp gB (.pointer (some ⟨gr, 0, none⟩)) (.slice none 0 0) [] [] ∧ SAt w.heap.size w' gp gs ge gl (freshN c k r) (docFresh c k r) ∧ RAt w.heap.size w' gr gy gf gm (freshR c) (docFresh c k r) ∧ Below w.heap.size w w'

set_option maxRecDepth 100000 in
set_option maxHeartbeats 4000000 in
theorem begun_yes (c k r gB : Nat) (w : World) (h1 : 1 ≤ c) (h2 : c ≤ 8) (h3 : 1 ≤ k) (h4 : k ≤ 4) (h5 : 2 ≤ r) (h6 : r ≤ 100) :
    Calls Tryz.prog 24 #[.agg #[.int .i64 c, .int .i64 k, .int .i64 r], .pointer (some ⟨gB, 0, none⟩)] w fun e w' => BegunPost w gB c k r e w' := by
  have CF0 := hide (heap_alloc_new w (.cells #[.int .i64 (c : Int), .int .i64 (k : Int), .int .i64 (r : Int)] 23))
  go_enter Tryz.func24, Tryz.ntmps24
  go_wp2_with fail
  go_at_call 11
  refine (gnewS_yes c k r _ h1 h2 h3 h4 h5 h6).mono ?_
  rintro e w1 ⟨gs, rfl, a1, a2, a3⟩
  have CF1 := block_keep (unhide CF0) a3
  have c0 : w1.cell? ⟨w.heap.size, 0, none⟩ = some (.int .i64 (c : Int)) := block_cell CF1 0
  have c1 : w1.cell? ⟨w.heap.size, 1, none⟩ = some (.int .i64 (k : Int)) := block_cell CF1 1
  have c2 : w1.cell? ⟨w.heap.size, 2, none⟩ = some (.int .i64 (r : Int)) := block_cell CF1 2
  have HCF1 := hide CF1
  have HS1 := hide a2
  have HB1 := hide (grew_call ((Below.refl _ _).alloc (Nat.le_refl _) _) a3 : Below w.heap.size w w1)
  have hgs : w.heap.size ≤ gs := by have := a1; simp at this; omega
  clear a1 a2 a3 CF1
  go_wp2_with fail
  go_at_call 45
  refine (gnewR_yes c k r _ h1 h2 h3 h4 h5 h6).mono ?_
  rintro e w2 ⟨gy, rfl, a1, a2, a3⟩
  have CF2 := block_keep (unhide HCF1) a3
  have c0 : w2.cell? ⟨w.heap.size, 0, none⟩ = some (.int .i64 (c : Int)) := block_cell CF2 0
  have c1 : w2.cell? ⟨w.heap.size, 1, none⟩ = some (.int .i64 (k : Int)) := block_cell CF2 1
  have c2 : w2.cell? ⟨w.heap.size, 2, none⟩ = some (.int .i64 (r : Int)) := block_cell CF2 2
  have HCF2 := hide CF2
  have hz1 := (unhide HB1).size
  have hgy : w.heap.size ≤ gy := by omega
  have HS2 := hide (block_keep (unhide HS1) a3 : SndAt w2 gs (freshN c k r))
  have HY2 := hide a2
  have HB2 := hide (grew_call (unhide HB1) a3)
  clear a1 a2 a3 CF2 HS1 HB1 HCF1
  go_wp2_with fail
  go_at_call 12
  refine (dnew_yes c k r _ h1 h2 h3 h4 h5 h6).mono ?_
  rintro e w3 ⟨ge, gl, rfl, b1, b2, b3, b4, b5⟩
  have CF3 := block_keep (unhide HCF2) b5
  have c0 : w3.cell? ⟨w.heap.size, 0, none⟩ = some (.int .i64 (c : Int)) := block_cell CF3 0
  have c1 : w3.cell? ⟨w.heap.size, 1, none⟩ = some (.int .i64 (k : Int)) := block_cell CF3 1
  have c2 : w3.cell? ⟨w.heap.size, 2, none⟩ = some (.int .i64 (r : Int)) := block_cell CF3 2
  have hz2 := (unhide HB2).size
  have hge : w.heap.size ≤ ge := by omega
  have hgl : w.heap.size ≤ gl := by omega
  have HS3 := hide (block_keep (unhide HS2) b5 : SndAt w3 gs (freshN c k r))
  have HY3 := hide (block_keep (unhide HY2) b5 : RcvAt w3 gy (freshR c))
  have HD3 := hide b4
  have HB3 := hide (grew_call (unhide HB2) b5)
  have lge := block_lt b4.head
  have lgl := block_lt b4.rows
  clear b1 b2 b3 b4 b5 CF3 HS2 HY2 HB2 HCF2
  go_wp2_with fail
  go_at_call 12
  refine (dnew_yes c k r _ h1 h2 h3 h4 h5 h6).mono ?_
  rintro e w4 ⟨gf, gm, rfl, b1, b2, b3, b4, b5⟩
  have hz3 := (unhide HB3).size
  have hgf : w.heap.size ≤ gf := by omega
  have hgm : w.heap.size ≤ gm := by omega
  have nef : ge ≠ gf := by omega
  have nlm : gl ≠ gm := by omega
  have HS4 := hide (block_keep (unhide HS3) b5 : SndAt w4 gs (freshN c k r))
  have HY4 := hide (block_keep (unhide HY3) b5 : RcvAt w4 gy (freshR c))
  have HD4 := hide ((unhide HD3).keep b5)
  have HF4 := hide b4
  have HB4 := hide (grew_call (unhide HB3) b5)
  clear b1 b2 b3 b4 b5 c0 c1 c2 HS3 HY3 HB3 HD3 lge lgl
  go_wp2_with (go_at_call 13; refine (bits.num_any _ _).mono ?_; rintro e w5 ⟨rfl, h5'⟩; have h5' := h5'.symm; subst h5')
  go_ret2
  have hz4 := (unhide HB4).size
  have e1 : (w4.alloc (.cells #[.pointer (some ⟨gs, 0, none⟩), .pointer none, .pointer (some ⟨ge, 0, none⟩)] 60)).heap.size = w4.heap.size + 1 := by simp
  have x1 : Below w4.heap.size w4 (((w4.alloc (.cells #[.pointer (some ⟨gs, 0, none⟩), .pointer none, .pointer (some ⟨ge, 0, none⟩)] 60)).alloc (.cells #[.pointer none, .pointer (some ⟨gy, 0, none⟩), .pointer (some ⟨gf, 0, none⟩)] 60)).alloc (.cells #[.pointer (some ⟨w4.heap.size, 0, none⟩), .pointer (some ⟨w4.heap.size + 1, 0, none⟩), .slice none 0 0, .string (bs []), .pointer (some ⟨gB, 0, none⟩)] 62)) := (((Below.refl _ _).alloc (Nat.le_refl _) _).alloc (by simp) _).alloc (by simp; omega) _
  exact ⟨w4.heap.size + 1 + 1, w4.heap.size, gs, ge, gl, w4.heap.size + 1, gy, gf, gm, rfl, by omega, hgs, hge, hgl, hgy, hgf, hgm, nef, nlm, ⟨third_alloc w4 _ _ _, World.ownsRow_nil _ _ _ _, by omega⟩, ⟨block_alloc (block_alloc (heap_alloc_new w4 _) _) _, block_keep (unhide HS4) x1, (unhide HD4).keep x1, docFresh_sts _ _ _ _ _, hgs, hge, hgl⟩, ⟨second_alloc w4 _ _ _, block_keep (unhide HY4) x1, (unhide HF4).keep x1, docFresh_sts _ _ _ _ _, hgy, hgf, hgm⟩, grew_call (unhide HB4) x1⟩

set_option maxRecDepth 100000 in
set_option maxHeartbeats 4000000 in
theorem begun_no (c k r : Int) (gB : Nat) (w : World) (h : confB c k r = false) :
    Calls Tryz.prog 24 #[.agg #[.int .i64 c, .int .i64 k, .int .i64 r], .pointer (some ⟨gB, 0, none⟩)] w fun e w' => e = .returned (.tuple #[.pointer none, .bool true]) ∧ Below w.heap.size w w' := by
  have CF0 := hide (heap_alloc_new w (.cells #[.int .i64 c, .int .i64 k, .int .i64 r] 23))
  have HC := hide h
  clear h
  go_enter Tryz.func24, Tryz.ntmps24
  go_wp2_with fail
  go_at_call 11
  refine (gnewS_no c k r _ (unhide HC)).mono ?_
  rintro e w1 ⟨rfl, a3⟩
  have CF1 := block_keep (unhide CF0) a3
  have c0 : w1.cell? ⟨w.heap.size, 0, none⟩ = some (.int .i64 c) := block_cell CF1 0
  have c1 : w1.cell? ⟨w.heap.size, 1, none⟩ = some (.int .i64 k) := block_cell CF1 1
  have c2 : w1.cell? ⟨w.heap.size, 2, none⟩ = some (.int .i64 r) := block_cell CF1 2
  have HCF1 := hide CF1
  have HB1 := hide (grew_call ((Below.refl _ _).alloc (Nat.le_refl _) _) a3 : Below w.heap.size w w1)
  clear a3 CF1
  go_wp2_with fail
  go_at_call 45
  refine (gnewR_no c k r _ (unhide HC)).mono ?_
  rintro e w2 ⟨rfl, a3⟩
  have CF2 := block_keep (unhide HCF1) a3
  have c0 : w2.cell? ⟨w.heap.size, 0, none⟩ = some (.int .i64 c) := block_cell CF2 0
  have c1 : w2.cell? ⟨w.heap.size, 1, none⟩ = some (.int .i64 k) := block_cell CF2 1
  have c2 : w2.cell? ⟨w.heap.size, 2, none⟩ = some (.int .i64 r) := block_cell CF2 2
  have HCF2 := hide CF2
  have HB2 := hide (grew_call (unhide HB1) a3)
  clear a3 CF2 HB1 HCF1
  go_wp2_with fail
  go_at_call 12
  refine (dnew_no c k r _ (unhide HC)).mono ?_
  rintro e w3 ⟨rfl, b5⟩
  have CF3 := block_keep (unhide HCF2) b5
  have c0 : w3.cell? ⟨w.heap.size, 0, none⟩ = some (.int .i64 c) := block_cell CF3 0
  have c1 : w3.cell? ⟨w.heap.size, 1, none⟩ = some (.int .i64 k) := block_cell CF3 1
  have c2 : w3.cell? ⟨w.heap.size, 2, none⟩ = some (.int .i64 r) := block_cell CF3 2
  have HB3 := hide (grew_call (unhide HB2) b5)
  clear b5 CF3 HB2 HCF2
  go_wp2_with fail
  go_at_call 12
  refine (dnew_no c k r _ (unhide HC)).mono ?_
  rintro e w4 ⟨rfl, b5⟩
  have HB4 := hide (grew_call (unhide HB3) b5)
  clear b5 c0 c1 c2 HB3
  go_wp2_with (go_at_call 13; refine (bits.num_any _ _).mono ?_; rintro e w5 ⟨rfl, h5'⟩; have h5' := h5'.symm; subst h5')
  go_ret2
  exact ⟨rfl, unhide HB4⟩

end Go.Proofs.YtgpojbgjfibblaaGreat.texts

namespace Go.Proofs.YtgpojbgjfibblaaGreat.texts
open Go.RowKit
set_option linter.unusedVariables false

/-- where a world's blocks lie -/
structure Ids where
  wd : Nat
  gp : Nat
  gs : Nat
  ge : Nat
  gl : Nat
  gr : Nat
  gy : Nat
  gf : Nat
  gm : Nat
  vs : Value
def Ids.foot (x : Ids) (k : Nat) : Prop := k = x.wd ∨ k = x.gs ∨ k = x.ge ∨ k = x.gl ∨ k = x.gy ∨ k = x.gf ∨ k = x.gm ∨ x.vs.ownBlock = some k
structure Parts (B : Nat) (w : World) (gB t : Nat) (x : Ids) (fs : List (List UInt8)) (bk : List UInt8) (m : Snd) (d : Doc) (k : Nat) (mr : Rcv) (dr : Doc) : Prop where
  wat : WAt B w x.wd x.gp gB (.pointer (some ⟨x.gr, 0, none⟩)) x.vs fs bk
  sat : SAt B w x.gp x.gs x.ge x.gl m d
  ends : Ends m d k
  rat : RAt B w x.gr x.gy x.gf x.gm mr dr
  endr : EndsR mr dr
  sent : d.sent ≤ t
  few : fs.length ≤ t
  short : ∀ f ∈ fs, f.length ≤ 1000
  back : bk.length ≤ 1000
  nef : x.ge ≠ x.gf
  nlm : x.gl ≠ x.gm
def Half2 (B : Nat) (w : World) (gB t : Nat) (x : Ids) : Prop := ∃ fs bk m d k mr dr, Parts B w gB t x fs bk m d k mr dr
theorem Parts.ty {B : Nat} {w : World} {gB t : Nat} {x : Ids} {fs : List (List UInt8)} {bk : List UInt8} {m : Snd} {d : Doc} {k : Nat} {mr : Rcv} {dr : Doc} (h : Parts B w gB t x fs bk m d k mr dr) {q : Nat} (hq : x.foot q) :
    B ≤ q ∧ ∃ cs t fr, w.heap[q]? = some (.cells cs t fr) ∧ t ∈ [62, 83, 86, 109, 118, 9] := by
  rcases hq with rfl | rfl | rfl | rfl | rfl | rfl | rfl | e
  · exact ⟨h.wat.lw, _, _, _, h.wat.blk, by simp⟩
  · exact ⟨h.sat.ls, _, _, _, h.sat.snd, by simp⟩
  · exact ⟨h.sat.le, _, _, _, h.sat.doc.head, by simp⟩
  · exact ⟨h.sat.ll, _, _, _, h.sat.doc.rows, by simp⟩
  · exact ⟨h.rat.ls, _, _, _, h.rat.rcv, by simp⟩
  · exact ⟨h.rat.le, _, _, _, h.rat.doc.head, by simp⟩
  · exact ⟨h.rat.ll, _, _, _, h.rat.doc.rows, by simp⟩
  · obtain ⟨cur, hc⟩ := own_ty h.wat.sent e
    exact ⟨(h.wat.sent.lt q e).1, _, _, _, hc, by simp⟩
theorem Half2.lt {B : Nat} {w : World} {gB t : Nat} {x : Ids} (h : Half2 B w gB t x) {q : Nat} (hq : x.foot q) : q < w.heap.size := by
  obtain ⟨fs, bk, m, d, k, mr, dr, p⟩ := h
  obtain ⟨_, cs, t, fr, hh, _⟩ := p.ty hq
  exact block_lt hh
theorem Half2.onlyT {ts : List TypeId} {B : Nat} {w w' : World} {gB t t' : Nat} {x : Ids} (h : Half2 B w gB t x) (o : OnlyT ts w w') (ht : t ≤ t') (h0 : 62 ∉ ts) (h1 : 60 ∉ ts) (h2 : 83 ∉ ts) (h3 : 86 ∉ ts) (h4 : 109 ∉ ts) (h5 : 111 ∉ ts) (h6 : 118 ∉ ts) (h7 : 9 ∉ ts) : Half2 B w' gB t' x := by
  obtain ⟨fs, bk, m, d, k, mr, dr, p⟩ := h
  have a := p.sent
  have b := p.few
  exact ⟨fs, bk, m, d, k, mr, dr, p.wat.onlyT o h0 h7, p.sat.onlyT o h1 h2 h3 h4 h5, p.ends, p.rat.onlyT o h1 h6 h3 h4 h5, p.endr, by omega, by omega, p.short, p.back, p.nef, p.nlm⟩
theorem Half2.grew {B : Nat} {w w' : World} {gB t t' : Nat} {x : Ids} (h : Half2 B w gB t x) (hb : Below w.heap.size w w') (ht : t ≤ t') : Half2 B w' gB t' x :=
  h.onlyT (OnlyT.of_below (ts := []) hb) ht (by simp) (by simp) (by simp) (by simp) (by simp) (by simp) (by simp) (by simp)
theorem Half2.rest {S : Nat → Prop} {B : Nat} {w w' : World} {gB t t' : Nat} {x : Ids} (h : Half2 B w gB t x) (o : Only S w w') (ht : t ≤ t') (hS : ∀ k, S k → ∃ cs t fr, w.heap[k]? = some (.cells cs t fr) ∧ t ≠ 60 ∧ t ≠ 111) (hd : ∀ k, S k → ¬ x.foot k) : Half2 B w' gB t' x := by
  obtain ⟨fs, bk, m, d, k, mr, dr, p⟩ := h
  have a := p.sent
  have b := p.few
  refine ⟨fs, bk, m, d, k, mr, dr, p.wat.rest o (fun e => hd _ e (Or.inl rfl)) (fun g hg e => hd _ e (Or.inr (Or.inr (Or.inr (Or.inr (Or.inr (Or.inr (Or.inr hg)))))))), p.sat.rest o hS (fun e => hd _ e (Or.inr (Or.inl rfl))) (fun e => hd _ e (Or.inr (Or.inr (Or.inl rfl)))) (fun e => hd _ e (Or.inr (Or.inr (Or.inr (Or.inl rfl))))), p.ends,
    p.rat.rest o hS (fun e => hd _ e (Or.inr (Or.inr (Or.inr (Or.inr (Or.inl rfl)))))) (fun e => hd _ e (Or.inr (Or.inr (Or.inr (Or.inr (Or.inr (Or.inl rfl))))))) (fun e => hd _ e (Or.inr (Or.inr (Or.inr (Or.inr (Or.inr (Or.inr (Or.inl rfl)))))))), p.endr, by omega, by omega, p.short, p.back, p.nef, p.nlm⟩
theorem not_two {l : List TypeId} {t a b : TypeId} (h : t ∈ l) (ha : a ∉ l) (hb : b ∉ l) : t ≠ a ∧ t ≠ b := ⟨fun e => ha (e ▸ h), fun e => hb (e ▸ h)⟩
/-- a send or a hear -/
theorem Parts.sent_ {B : Nat} {w w' : World} {gB t : Nat} {x : Ids} {fs : List (List UInt8)} {bk : List UInt8} {m : Snd} {d : Doc} {k : Nat} {mr : Rcv} {dr : Doc} (h : Parts B w gB t x fs bk m d k mr dr)
    (hp : SentPost B w x.wd x.gp x.gs x.ge x.gl gB (.pointer (some ⟨x.gr, 0, none⟩)) x.vs bk fs d w') : ∃ vs', Half2 B w' gB (t + 1) { x with vs := vs' } ∧ (vs'.ownBlock = x.vs.ownBlock ∨ ∃ g, vs'.ownBlock = some g ∧ w.heap.size ≤ g) ∧ Only x.foot w w' := by
  obtain ⟨m', d', k', vs', fs', E', e1, e2, e3, S', W', e4, o⟩ := hp
  have a := h.sent
  have b := h.few
  have ty : ∀ q, sendS x.wd x.gs x.ge x.gl x.vs q → x.foot q := by
    rintro q (e | e | e | e | e)
    · exact Or.inl e
    · exact Or.inr (Or.inl e)
    · exact Or.inr (Or.inr (Or.inl e))
    · exact Or.inr (Or.inr (Or.inr (Or.inl e)))
    · exact Or.inr (Or.inr (Or.inr (Or.inr (Or.inr (Or.inr (Or.inr e))))))
  have nt : ∀ q, sendS x.wd x.gs x.ge x.gl x.vs q → ∃ cs t fr, w.heap[q]? = some (.cells cs t fr) ∧ t ≠ 60 ∧ t ≠ 111 := fun q e => by
    obtain ⟨_, cs, t, fr, h1, h2⟩ := h.ty (ty q e)
    exact ⟨cs, t, fr, h1, not_two h2 (by decide) (by decide)⟩
  refine ⟨vs', ⟨fs', bk, m', d', k', mr, dr, W', S', E', ?_, h.endr, by omega, by omega, e3 h.short, h.back, h.nef, h.nlm⟩, e4, o.mono ty⟩
  refine h.rat.rest o nt ?_ ?_ ?_
  · rintro (e | e | e | e | e)
    · exact apart_ty h.rat.rcv h.wat.blk (by decide) e
    · exact apart_ty h.rat.rcv h.sat.snd (by decide) e
    · exact apart_ty h.rat.rcv h.sat.doc.head (by decide) e
    · exact apart_ty h.rat.rcv h.sat.doc.rows (by decide) e
    · obtain ⟨cur, hc⟩ := own_ty h.wat.sent e
      exact apart_ty h.rat.rcv hc (by decide) rfl
  · rintro (e | e | e | e | e)
    · exact apart_ty h.rat.doc.head h.wat.blk (by decide) e
    · exact apart_ty h.rat.doc.head h.sat.snd (by decide) e
    · exact h.nef e.symm
    · exact apart_ty h.rat.doc.head h.sat.doc.rows (by decide) e
    · obtain ⟨cur, hc⟩ := own_ty h.wat.sent e
      exact apart_ty h.rat.doc.head hc (by decide) rfl
  · rintro (e | e | e | e | e)
    · exact apart_ty h.rat.doc.rows h.wat.blk (by decide) e
    · exact apart_ty h.rat.doc.rows h.sat.snd (by decide) e
    · exact apart_ty h.rat.doc.rows h.sat.doc.head (by decide) e
    · exact h.nlm e.symm
    · obtain ⟨cur, hc⟩ := own_ty h.wat.sent e
      exact apart_ty h.rat.doc.rows hc (by decide) rfl
/-- a take -/
theorem Parts.took_ {B : Nat} {w w' : World} {gB t : Nat} {x : Ids} {fs : List (List UInt8)} {bk : List UInt8} {m : Snd} {d : Doc} {k : Nat} {mr : Rcv} {dr : Doc} (h : Parts B w gB t x fs bk m d k mr dr)
    (hp : TookPost B w x.wd x.gp gB x.gr x.gy x.gf x.gm x.vs fs bk w') : Half2 B w' gB (t + 1) x ∧ Only x.foot w w' := by
  obtain ⟨m', d', bk', E', R', W', e1, o⟩ := hp
  have a := h.sent
  have b := h.few
  have ty : ∀ q, takeS x.wd x.gy x.gm q → x.foot q := by
    rintro q (e | e | e)
    · exact Or.inl e
    · exact Or.inr (Or.inr (Or.inr (Or.inr (Or.inl e))))
    · exact Or.inr (Or.inr (Or.inr (Or.inr (Or.inr (Or.inr (Or.inl e))))))
  have nt : ∀ q, takeS x.wd x.gy x.gm q → ∃ cs t fr, w.heap[q]? = some (.cells cs t fr) ∧ t ≠ 60 ∧ t ≠ 111 := fun q e => by
    obtain ⟨_, cs, t, fr, h1, h2⟩ := h.ty (ty q e)
    exact ⟨cs, t, fr, h1, not_two h2 (by decide) (by decide)⟩
  refine ⟨⟨fs, bk', m, d, k, m', d', W', ?_, h.ends, R', E', by omega, by omega, h.short, e1 h.back, h.nef, h.nlm⟩, o.mono ty⟩
  refine h.sat.rest o nt ?_ ?_ ?_
  · rintro (e | e | e)
    · exact apart_ty h.sat.snd h.wat.blk (by decide) e
    · exact apart_ty h.sat.snd h.rat.rcv (by decide) e
    · exact apart_ty h.sat.snd h.rat.doc.rows (by decide) e
  · rintro (e | e | e)
    · exact apart_ty h.sat.doc.head h.wat.blk (by decide) e
    · exact apart_ty h.sat.doc.head h.rat.rcv (by decide) e
    · exact apart_ty h.sat.doc.head h.rat.doc.rows (by decide) e
  · rintro (e | e | e)
    · exact apart_ty h.sat.doc.rows h.wat.blk (by decide) e
    · exact apart_ty h.sat.doc.rows h.rat.rcv (by decide) e
    · exact h.nlm e

/-- both pairs, and the book -/
structure Both2 (B : Nat) (w : World) (gB i : Nat) (x1 x2 : Ids) (vF vM : Value) (next : Int) (K : List (Value × Int)) (wr : World) : Prop where
  one : Half2 B wr gB i x1
  two : Half2 B wr gB i x2
  apart : ∀ k, x1.foot k → ¬ x2.foot k
  book : BkAt B wr gB vF vM (.slice none 0 0) (.slice none 0 0) next K
  sh : FShorts K
  kl : K.length ≤ 8 * i
  nl : -(2 * (i : Int)) ≤ next
  nu : next ≤ 0
  bel : Below B w wr
def TakesP (B : Nat) (w : World) (gB i wd1 wd2 : Nat) (wr : World) : Prop := ∃ x1 x2 vF vM next K, x1.wd = wd1 ∧ x2.wd = wd2 ∧ Both2 B w gB i x1 x2 vF vM next K wr
theorem Both2.low {B : Nat} {w wr : World} {gB i : Nat} {x1 x2 : Ids} {vF vM : Value} {next : Int} {K : List (Value × Int)} (h : Both2 B w gB i x1 x2 vF vM next K wr) : B ≤ wr.heap.size := by
  have := h.book.low
  have := block_lt h.book.blk
  omega
theorem TakesP.grew {B : Nat} {w wr w' : World} {gB i wd1 wd2 : Nat} (h : TakesP B w gB i wd1 wd2 wr) (hb : Below wr.heap.size wr w') {i' : Nat} (hi : i ≤ i') : TakesP B w gB i' wd1 wd2 w' := by
  obtain ⟨x1, x2, vF, vM, next, K, e1, e2, p⟩ := h
  have hl := p.low
  have kl := p.kl
  have nl := p.nl
  exact ⟨x1, x2, vF, vM, next, K, e1, e2, p.one.grew hb hi, p.two.grew hb hi, p.apart, p.book.grew hb, p.sh, by omega, by omega, p.nu, p.bel.trans (hb.mono hl)⟩
theorem TakesP.swap {B : Nat} {w wr : World} {gB i wd1 wd2 : Nat} (h : TakesP B w gB i wd1 wd2 wr) : TakesP B w gB i wd2 wd1 wr := by
  obtain ⟨x1, x2, vF, vM, next, K, e1, e2, p⟩ := h
  exact ⟨x2, x1, vF, vM, next, K, e2, e1, p.two, p.one, fun k a b => p.apart k b a, p.book, p.sh, p.kl, p.nl, p.nu, p.bel⟩
theorem TakesP.below {B : Nat} {w wr : World} {gB i wd1 wd2 : Nat} (h : TakesP B w gB i wd1 wd2 wr) : Below B w wr := by
  obtain ⟨x1, x2, vF, vM, next, K, e1, e2, p⟩ := h
  exact p.bel
/-- the first has gone a step on -/
theorem Both2.step {B : Nat} {w wr w' : World} {gB i : Nat} {x1 x2 y1 : Ids} {vF vM : Value} {next : Int} {K : List (Value × Int)} (h : Both2 B w gB i x1 x2 vF vM next K wr) (h1 : Half2 B w' gB (i + 1) y1) (o : Only x1.foot wr w') (hy : ∀ k, y1.foot k → x1.foot k ∨ wr.heap.size ≤ k) : Both2 B w gB (i + 1) y1 x2 vF vM next K w' := by
  obtain ⟨fs, bk, m, d, k, mr, dr, p⟩ := h.one
  have ty := fun q (e : x1.foot q) => (p.ty e).2
  have oT := OnlyT.of_only o ty
  have kl := h.kl
  have nl := h.nl
  refine ⟨h1, h.two.rest o (by omega) (fun q e => ?_) (fun q e => h.apart q e), fun q a b => ?_, h.book.only oT (by decide) (by decide) (by decide) (by decide), h.sh, by omega, by omega, h.nu, h.bel.trans (only_low o h.low (fun q e => (p.ty e).1))⟩
  · obtain ⟨cs, t, fr, a, b⟩ := ty q e
    exact ⟨cs, t, fr, a, not_two b (by decide) (by decide)⟩
  · rcases hy q a with c | c
    · exact h.apart q c b
    · have := h.two.lt b
      omega
/-- what is told goes into the book -/
theorem Both2.told {B : Nat} {w wr w' : World} {gB i : Nat} {x1 x2 : Ids} {vF vM : Value} {next : Int} {K : List (Value × Int)} (h : Both2 B w gB i x1 x2 vF vM next K wr) (hp : ToldPost B wr gB (.slice none 0 0) (.slice none 0 0) next K w') : ∃ vF' vM' K', Both2 B w gB (i + 1) x1 x2 vF' vM' (next - 2) K' w' := by
  obtain ⟨vF', vM', K', bk', kl', fs', b', o'⟩ := hp
  have kl := h.kl
  have nl := h.nl
  have nu := h.nu
  exact ⟨vF', vM', K', h.one.onlyT o' (by omega) (by decide) (by decide) (by decide) (by decide) (by decide) (by decide) (by decide) (by decide), h.two.onlyT o' (by omega) (by decide) (by decide) (by decide) (by decide) (by decide) (by decide) (by decide) (by decide), h.apart, bk', fs', by omega, by omega, by omega, h.bel.trans b'⟩

end Go.Proofs.YtgpojbgjfibblaaGreat.texts

namespace Go.Proofs.YtgpojbgjfibblaaGreat.texts
open Go.RowKit
set_option linter.unusedVariables false
attribute [local go_sem ↓] Go.wp_at_zero Go.wp_at_succ

/-- the next step of the script -/
theorem plays_step (B : Nat) (w wr : World) (gB i wd1 wd2 : Nat) (o : Oq) (h : TakesP B w gB i wd1 wd2 wr) (ho : o.ok) (hi : i ≤ 1048576) (hk : 1 ≤ o.kind ∧ o.kind ≤ 8) :
    Calls Tryz.prog 7 #[.pointer (some ⟨wd1, 0, none⟩), .agg o.cells] wr (Hands fun v w' => v = true ∧ TakesP B w gB (i + 1) wd1 wd2 w') := by
  have hb : Below wr.heap.size wr (wr.alloc (.cells o.cells 43)) := (Below.refl _ _).alloc (Nat.le_refl _) _
  have h0 := h
  have h' := h.grew hb (Nat.le_refl i)
  obtain ⟨x1, x2, vF, vM, next, K, rfl, rfl, P⟩ := h'
  obtain ⟨fs, bk, m, d, k, mr, dr, p⟩ := P.one
  have sent : ∀ w', SentPost B (wr.alloc (.cells o.cells 43)) x1.wd x1.gp x1.gs x1.ge x1.gl gB (.pointer (some ⟨x1.gr, 0, none⟩)) x1.vs bk fs d w' → TakesP B w gB (i + 1) x1.wd x2.wd w' := by
    intro w' hp
    obtain ⟨vs', h1, h2, o'⟩ := p.sent_ hp
    refine ⟨{ x1 with vs := vs' }, x2, vF, vM, next, K, rfl, rfl, P.step h1 o' ?_⟩
    rintro q (e | e | e | e | e | e | e | e)
    · exact Or.inl (Or.inl e)
    · exact Or.inl (Or.inr (Or.inl e))
    · exact Or.inl (Or.inr (Or.inr (Or.inl e)))
    · exact Or.inl (Or.inr (Or.inr (Or.inr (Or.inl e))))
    · exact Or.inl (Or.inr (Or.inr (Or.inr (Or.inr (Or.inl e)))))
    · exact Or.inl (Or.inr (Or.inr (Or.inr (Or.inr (Or.inr (Or.inl e))))))
    · exact Or.inl (Or.inr (Or.inr (Or.inr (Or.inr (Or.inr (Or.inr (Or.inl e)))))))
    · rcases h2 with e2 | ⟨g, e2, hg⟩
      · exact Or.inl (Or.inr (Or.inr (Or.inr (Or.inr (Or.inr (Or.inr (Or.inr (e2 ▸ e))))))))
      · right
        have e' : vs'.ownBlock = some q := e
        rw [e2] at e'
        simp at e'
        omega
  have took : ∀ w', TookPost B (wr.alloc (.cells o.cells 43)) x1.wd x1.gp gB x1.gr x1.gy x1.gf x1.gm x1.vs fs bk w' → TakesP B w gB (i + 1) x1.wd x2.wd w' := by
    intro w' hp
    obtain ⟨h1, o'⟩ := p.took_ hp
    exact ⟨x1, x2, vF, vM, next, K, rfl, rfl, P.step h1 o' (fun q e => Or.inl e)⟩
  have told : ∀ w', ToldPost B (wr.alloc (.cells o.cells 43)) gB (.slice none 0 0) (.slice none 0 0) next K w' → TakesP B w gB (i + 1) x1.wd x2.wd w' := by
    intro w' hp
    obtain ⟨vF', vM', K', P'⟩ := P.told hp
    exact ⟨x1, x2, vF', vM', next - 2, K', rfl, rfl, P'⟩
  have ps := p.sent
  have pf := p.few
  have kl := P.kl
  have nl := P.nl
  have nu := P.nu
  have cases8 : o.kind = 1 ∨ o.kind = 2 ∨ o.kind = 3 ∨ o.kind = 4 ∨ o.kind = 5 ∨ o.kind = 6 ∨ o.kind = 7 ∨ o.kind = 8 := by omega
  rcases cases8 with hk | hk | hk | hk | hk | hk | hk | hk
  · refine step_send o x1.wd wr _ hk ?_
    by_cases hbo : o.p.body.length ≤ 100
    · refine (wsend_short B x1.wd x1.gp x1.gs x1.ge x1.gl gB _ x1.vs fs bk m d k o.p _ p.wat p.sat p.ends ho.p hbo (by omega) (by omega)).mono ?_
      rintro e w2 ⟨rfl, hp⟩
      exact ⟨true, rfl, rfl, sent w2 hp⟩
    · refine (wsend_long B x1.wd x1.gp x1.gs x1.ge x1.gl gB _ x1.vs fs bk m d k o.p _ p.wat p.sat p.ends (by omega)).mono ?_
      rintro e w2 ⟨rfl, hp⟩
      exact ⟨true, rfl, rfl, sent w2 hp⟩
  · refine step_hear o x1.wd wr _ hk ?_
    refine (whear_any B x1.wd x1.gp x1.gs x1.ge x1.gl gB _ x1.vs fs bk m d k o.s _ p.wat p.sat p.ends ho.s).mono ?_
    rintro e w2 ⟨rfl, hp⟩
    exact ⟨true, rfl, rfl, sent w2 hp⟩
  · have hbk : wr.cell? ⟨x1.wd, 3, none⟩ = some (.string (bs bk)) := by
      obtain ⟨y1, y2, vF2, vM2, next2, K2, e1, e2, P2⟩ := h0
      obtain ⟨fs2, bk2, m2, d2, k2, mr2, dr2, p2⟩ := P2.one
      have c2 : wr.cell? ⟨y1.wd, 3, none⟩ = some (.string (bs bk2)) := block_cell p2.wat.blk 3
      rw [e1] at c2
      have c3 := keep_cell c2 hb
      have c4 : (wr.alloc (.cells o.cells 43)).cell? ⟨x1.wd, 3, none⟩ = some (.string (bs bk)) := block_cell p.wat.blk 3
      rw [c4] at c3
      rw [c2, ← c3]
    refine step_hears o x1.wd wr _ hk bk hbk ?_
    refine (whear_any B x1.wd x1.gp x1.gs x1.ge x1.gl gB _ x1.vs fs bk m d k bk _ p.wat p.sat p.ends (by have := p.back; unfold maxLen; omega)).mono ?_
    rintro e w2 ⟨rfl, hp⟩
    exact ⟨true, rfl, rfl, sent w2 hp⟩
  · refine step_sent o x1.wd wr _ hk ?_
    refine (wtold_snd B x1.wd x1.gp x1.gs x1.ge x1.gl gB _ x1.vs fs bk m d k vF vM _ _ next K _ p.wat p.sat p.ends (by omega) P.book P.sh (by omega) (by omega) (by omega)).mono ?_
    rintro e w2 ⟨rfl, hp⟩
    exact ⟨true, rfl, rfl, told w2 hp⟩
  · refine step_take o x1.wd wr _ hk ?_
    refine (wtake_any B x1.wd x1.gp gB x1.gr x1.gy x1.gf x1.gm x1.vs fs bk mr dr o.s _ p.wat p.rat p.endr (by have := ho.s; unfold maxLen at this; omega)).mono ?_
    rintro e w2 ⟨rfl, hp⟩
    exact ⟨true, rfl, rfl, took w2 hp⟩
  · refine step_pass o x1.wd wr _ hk ?_
    refine (wpassed_any B x1.wd x1.gp gB x1.gr x1.gy x1.gf x1.gm x1.vs fs bk mr dr o _ p.wat p.rat p.endr ho p.short (by omega)).mono ?_
    rintro e w2 ⟨rfl, hp⟩
    exact ⟨true, rfl, rfl, took w2 hp⟩
  · refine step_spoil o x1.wd wr _ hk ?_
    refine (wpassed_any B x1.wd x1.gp gB x1.gr x1.gy x1.gf x1.gm x1.vs fs bk mr dr o _ p.wat p.rat p.endr ho p.short (by omega)).mono ?_
    rintro e w2 ⟨rfl, hp⟩
    exact ⟨true, rfl, rfl, took w2 hp⟩
  · refine step_took o x1.wd wr _ hk ?_
    refine (wtold_rcv B x1.wd x1.gp gB x1.gr x1.gy x1.gf x1.gm x1.vs fs bk mr dr vF vM _ _ next K _ p.wat p.rat p.endr P.book P.sh (by omega) (by omega) (by omega)).mono ?_
    rintro e w2 ⟨rfl, hp⟩
    exact ⟨true, rfl, rfl, told w2 hp⟩
/-- what the first pair tells at the end -/
theorem plays_ends (B : Nat) (w wr : World) (gB i wd1 wd2 : Nat) (h : TakesP B w gB i wd1 wd2 wr) (hi : i ≤ 1048590) :
    Calls Tryz.prog 25 #[.pointer (some ⟨wd1, 0, none⟩)] wr fun e w' => e = .returned (.bool true) ∧ TakesP B w gB (i + 1 + 1) wd1 wd2 w' := by
  refine ends_any wd1 wr (fun w1 => TakesP B w gB (i + 1) wd1 wd2 w1) _ ?_ (fun w1 h1 => ?_)
  · obtain ⟨x1, x2, vF, vM, next, K, rfl, rfl, P⟩ := h
    obtain ⟨fs, bk, m, d, k, mr, dr, p⟩ := P.one
    have ps := p.sent
    have kl := P.kl
    have nl := P.nl
    have nu := P.nu
    refine (wtold_snd B x1.wd x1.gp x1.gs x1.ge x1.gl gB _ x1.vs fs bk m d k vF vM _ _ next K _ p.wat p.sat p.ends (by omega) P.book P.sh (by omega) (by omega) (by omega)).mono ?_
    rintro e w2 ⟨rfl, hp⟩
    obtain ⟨vF', vM', K', P'⟩ := P.told hp
    exact ⟨rfl, x1, x2, vF', vM', next - 2, K', rfl, rfl, P'⟩
  · obtain ⟨x1, x2, vF, vM, next, K, rfl, rfl, P⟩ := h1
    obtain ⟨fs, bk, m, d, k, mr, dr, p⟩ := P.one
    have kl := P.kl
    have nl := P.nl
    have nu := P.nu
    refine (wtold_rcv B x1.wd x1.gp gB x1.gr x1.gy x1.gf x1.gm x1.vs fs bk mr dr vF vM _ _ next K _ p.wat p.rat p.endr P.book P.sh (by omega) (by omega) (by omega)).mono ?_
    rintro e w2 ⟨rfl, hp⟩
    obtain ⟨vF', vM', K', P'⟩ := P.told hp
    exact ⟨rfl, x1, x2, vF', vM', next - 2, K', rfl, rfl, P'⟩
theorem plays_looks (B : Nat) (w wr : World) (gB i wd1 wd2 : Nat) (h : TakesP B w gB i wd1 wd2 wr) (hi : i ≤ 1048600) :
    Calls Tryz.prog 8 #[.pointer (some ⟨gB, 0, none⟩)] wr fun e w' => e = .returned (.bool true) ∧ TakesP B w gB i wd1 wd2 w' := by
  have h' := h
  obtain ⟨x1, x2, vF, vM, next, K, rfl, rfl, P⟩ := h
  have kl := P.kl
  refine (flooks_any B _ gB vF vM _ _ next K [] P.book P.sh (by omega) (TxAt.nil B _) (by simp)).mono ?_
  rintro e w2 ⟨rfl, hb⟩
  exact ⟨rfl, h'.grew hb (Nat.le_refl i)⟩

/-- the kinds in memory -/
def KindsAt (w : World) (kb : Nat) (ks : List Int) : Prop := ∀ (j : Nat) (hj : j < ks.length), w.cell? ⟨kb, j, none⟩ = some (.int .i64 ks[j])
theorem any_succ (ks : List Int) (K : Int) (j : Nat) (hj : j < ks.length) : (ks.take (j + 1)).any (· == K) = ((ks.take j).any (· == K) || (ks[j] == K)) := by
  rw [List.take_succ_eq_append_getElem hj, List.any_append]
  simp

set_option maxRecDepth 100000 in
set_option maxHeartbeats 8000000 in
theorem plays_yes (w : World) (c k r : Nat) (v : Value) (S : List Oq) (ao : Option Addr) (b off cap : Nat) (kb : Nat) (ks : List Int) (hT : OpsAt w v S ao b off cap) (hok : ∀ (i : Nat) (hi : i < S.length), (S[i]).ok) (hm : S.length ≤ 1048576) (hks : KindsAt w kb ks) (hk10 : ks.length ≤ 10) (hin : ∀ K ∈ ks, (1 ≤ K ∧ K ≤ 8) ∨ K = 10) (h1 : 1 ≤ c) (h2 : c ≤ 8) (h3 : 1 ≤ k) (h4 : k ≤ 4) (h5 : 2 ≤ r) (h6 : r ≤ 100) :
    Calls Tryz.prog 10 #[.agg #[.int .i64 c, .int .i64 k, .int .i64 r], v, .slice (some ⟨kb, 0, none⟩) ks.length ks.length] w fun e w' => e = .returned (.bool true) ∧ Below w.heap.size w w' := by
  obtain ⟨rfl, ha, hcell⟩ := hT
  have HT : Hid (OpsAt w (.slice ao S.length cap) S ao b off cap) := ⟨rfl, ha, hcell⟩
  have HA := hide ha
  have HOK := hide hok
  have HKS := hide hks
  have HIN0 := hide hin
  have CF0 := hide (block_alloc (heap_alloc_new w (.cells #[.int .i64 (c : Int), .int .i64 (k : Int), .int .i64 (r : Int)] 23)) (.cells #[.slice none 0 0, .slice none 0 0, .slice none 0 0, .slice none 0 0, .int .i64 0] 31))
  have BK0 := hide (bk_new w.heap.size (w.alloc (.cells #[.int .i64 (c : Int), .int .i64 (k : Int), .int .i64 (r : Int)] 23)) (by simp))
  have BB0 := hide (((Below.refl _ _).alloc (Nat.le_refl _) _).alloc (by simp) _ : Below w.heap.size w ((w.alloc (.cells #[.int .i64 (c : Int), .int .i64 (k : Int), .int .i64 (r : Int)] 23)).alloc (.cells #[.slice none 0 0, .slice none 0 0, .slice none 0 0, .slice none 0 0, .int .i64 0] 31)))
  clear ha hcell hok hks hin
  obtain ⟨nk, hnk⟩ : ∃ nk, nk = ks.length := ⟨_, rfl⟩
  rw [← hnk] at hk10 ⊢
  have Hnk := hide hnk
  clear hnk
  go_enter Tryz.func10, Tryz.ntmps10
  go_wp2_with fail
  go_at_call 24
  refine (begun_yes c k r _ _ h1 h2 h3 h4 h5 h6).mono ?_
  rintro e w1 ⟨wd1, gp1, gs1, ge1, gl1, gr1, gy1, gf1, gm1, rfl, a1, a2, a3, a4, a5, a6, a7, nef1, nlm1, W1, S1, R1, b1⟩
  have z0 := (unhide BB0).size
  have HW1 := hide (W1.dn z0)
  have HS1 := hide (S1.dn z0)
  have HR1 := hide (R1.dn z0)
  have HB1 := hide (grew_call (unhide BB0) b1)
  have HK1 := hide ((unhide BK0).grew b1)
  have CF1 := block_keep (unhide CF0) b1
  have c0 : w1.cell? ⟨w.heap.size, 0, none⟩ = some (.int .i64 (c : Int)) := block_cell CF1 0
  have c1 : w1.cell? ⟨w.heap.size, 1, none⟩ = some (.int .i64 (k : Int)) := block_cell CF1 1
  have c2 : w1.cell? ⟨w.heap.size, 2, none⟩ = some (.int .i64 (r : Int)) := block_cell CF1 2
  have egB : (w.alloc (.cells #[.int .i64 (c : Int), .int .i64 (k : Int), .int .i64 (r : Int)] 23)).heap.size = w.heap.size + 1 := by simp
  rw [egB] at HK1
  clear CF1 CF0 BK0 BB0 b1 W1 S1 R1 egB
  generalize w.heap.size + 1 = gB at HW1 HK1 ⊢
  go_wp2_with fail
  go_at_call 6
  refine (other_any c k r _ (by omega) (by omega) (by omega) (by omega) (by omega) (by omega)).mono ?_
  rintro e w2 ⟨rfl, b2⟩
  have HW2 := hide ((unhide HW1).grew b2)
  have HS2 := hide ((unhide HS1).grew b2)
  have HR2 := hide ((unhide HR1).grew b2)
  have HB2 := hide (grew_call (unhide HB1) b2)
  have HK2 := hide ((unhide HK1).grew b2)
  rw [show (9 : Int) - (c : Int) = ((9 - c : Nat) : Int) by omega, show (5 : Int) - (k : Int) = ((5 - k : Nat) : Int) by omega, show (102 : Int) - (r : Int) = ((102 - r : Nat) : Int) by omega]
  clear b2 HW1 HS1 HR1 HB1 HK1 c0 c1 c2
  go_wp2_with fail
  go_at_call 24
  refine (begun_yes (9 - c) (5 - k) (102 - r) _ _ (by omega) (by omega) (by omega) (by omega) (by omega) (by omega)).mono ?_
  rintro e w3 ⟨wd2, gp2, gs2, ge2, gl2, gr2, gy2, gf2, gm2, rfl, d1, d2, d3, d4, d5, d6, d7, nef2, nlm2, W3, S3, R3, b3⟩
  have z2 := (unhide HB2).size
  have P1 : Half2 w.heap.size w2 gB 0 ⟨wd1, gp1, gs1, ge1, gl1, gr1, gy1, gf1, gm1, .slice none 0 0⟩ := ⟨[], [], _, _, 0, _, _, unhide HW2, unhide HS2, ends_fresh h1 h2 h3 h4 h5 h6, unhide HR2, freshR_rel h1 h2, Nat.le_refl _, Nat.le_refl _, fun f hf => by simp at hf, by simp, nef1, nlm1⟩
  have P2 : Half2 w.heap.size w3 gB 0 ⟨wd2, gp2, gs2, ge2, gl2, gr2, gy2, gf2, gm2, .slice none 0 0⟩ := ⟨[], [], _, _, 0, _, _, W3.dn z2, S3.dn z2, ends_fresh (by omega) (by omega) (by omega) (by omega) (by omega) (by omega), R3.dn z2, freshR_rel (by omega) (by omega), Nat.le_refl _, Nat.le_refl _, fun f hf => by simp at hf, by simp, nef2, nlm2⟩
  have IN0 : TakesP w.heap.size w gB 0 wd1 wd2 w3 := by
    refine ⟨_, _, _, _, 0, [], rfl, rfl, P1.grew b3 (Nat.le_refl _), P2, fun q hq hq2 => ?_, (unhide HK2).grew b3, fun e he => by simp at he, by simp, by omega, by omega, grew_call (unhide HB2) b3⟩
    have hlt := P1.lt hq
    rcases hq2 with e | e | e | e | e | e | e | e
    · simp only at e; omega
    · simp only at e; omega
    · simp only at e; omega
    · simp only at e; omega
    · simp only at e; omega
    · simp only at e; omega
    · simp only at e; omega
    · simp [Value.ownBlock] at e
  have HIN1 := hide IN0
  clear IN0 W3 S3 R3 b3 HW2 HS2 HR2 HB2 HK2 P1 P2
  go_wp2_with fail
  go_loopw [8, 9, 10, 11] (fun wv okv vv iv wr => ∃ (i d1 d2 : Nat), i ≤ S.length ∧ iv = .int .i64 i ∧ wv = .pointer (some ⟨d1, 0, none⟩) ∧ okv = .bool true ∧ vv = .pointer (some ⟨d2, 0, none⟩) ∧ TakesP w.heap.size w gB i d1 d2 wr) (fun _ _ _ iv _ => S.length - (intOf iv).toNat)
  case atStart => exact ⟨0, wd1, wd2, by omega, rfl, rfl, rfl, rfl, unhide HIN1⟩
  case round =>
    clear HIN1
    obtain ⟨i, e1, e2, hi, rfl, rfl, rfl, rfl, hin⟩ := hrel
    have HIN := hide hin
    by_cases hlt : i < S.length
    · obtain rfl := unhide HA (by omega)
      obtain ⟨o, ho⟩ : ∃ o, S[i] = o := ⟨_, rfl⟩
      have hook : o.ok := by rw [← ho]; exact unhide HOK i hlt
      have HO := hide hook
      have Ho := hide ho
      have i0 : (0 : Int) ≤ (i : Int) := by omega
      have i1 : (i : Int) < (S.length : Int) := by omega
      clear hin hook ho
      go_wp2_with fail
      go_loopw [12, 13] (fun gv jv wr2 => ∃ j : Nat, j ≤ nk ∧ jv = .int .i64 j ∧ gv = .bool ((ks.take j).any (· == o.kind)) ∧ TakesP w.heap.size w gB i e1 e2 wr2) (fun _ jv _ => nk - (intOf jv).toNat)
      case atStart => exact ⟨0, by omega, rfl, rfl, unhide HIN⟩
      case round =>
        rename_i gv jv wr2
        clear HIN
        obtain ⟨j, hj, rfl, rfl, hin2⟩ := hrel
        obtain ⟨q0, q1, q2, q3, q4, q5, q6, q7, q8, q9, q10⟩ := (unhide HT).cells hin2.below hlt (unhide Ho)
        have HIN2 := hide hin2
        by_cases hjn : j < nk
        · have hjk : j < ks.length := by rw [← unhide Hnk]; exact hjn
          have kc := keep_cell (unhide HKS j hjk) hin2.below
          have HAS := hide (any_succ ks o.kind j hjk)
          obtain ⟨Kj, hKj⟩ : ∃ Kj, Kj = ks[j] := ⟨_, rfl⟩
          rw [← hKj] at kc HAS
          have j0 : (0 : Int) ≤ (j : Int) := by omega
          have j1 : (j : Int) < (nk : Int) := by omega
          clear hin2 hKj
          generalize (ks.take j).any (· == o.kind) = G at *
          cases G with
          | true =>
            go_wp2_with fail
            go_quiet (fail)
            all_goals go_wp2
            all_goals go_roundw
            case rel => exact ⟨j + 1, by omega, by go_num, by rw [unhide HAS]; rfl, (unhide HIN2).grew (below_drewN (Below.refl _ _) _) (Nat.le_refl _)⟩
            case measure => simp [intOf]; omega
          | false =>
            go_wp2_with fail
            go_quiet (fail)
            all_goals go_wp2
            all_goals go_roundw
            case rel => exact ⟨j + 1, by omega, by go_num, by rw [unhide HAS]; rfl, (unhide HIN2).grew (below_drewN (Below.refl _ _) _) (Nat.le_refl _)⟩
            case measure => simp [intOf]; omega
        · have ej : j = nk := by omega
          subst ej
          have hall : (ks.take j).any (· == o.kind) = ks.any (· == o.kind) := by rw [unhide Hnk, List.take_length]
          rw [hall]
          clear hin2 hall
          cases hG : ks.any (· == o.kind) with
          | false =>
            clear hG
            go_wp2_with fail
            go_roundw
            case rel => exact ⟨i + 1, e1, e2, by omega, by go_num, rfl, rfl, rfl, (unhide HIN2).grew (Below.refl _ _) (Nat.le_succ i)⟩
            case measure => simp [intOf]; omega
          | true =>
            have hkin : (1 ≤ o.kind ∧ o.kind ≤ 8) ∨ o.kind = 10 := by
              obtain ⟨K, hK, hK2⟩ := List.any_eq_true.1 hG
              rw [beq_iff_eq] at hK2
              rw [← hK2]
              exact unhide HIN0 K hK
            clear hG
            obtain ⟨K, n, p, s⟩ := o
            simp only at hkin
            by_cases k10 : K = 10
            · subst k10
              clear hkin
              go_wp2_with (go_at_call 8; refine (plays_looks w.heap.size w _ gB i e1 e2 (unhide HIN2) (by omega)).mono ?_; rintro e w6 ⟨rfl, h6⟩; have HIN3 := hide ((h6.grew (Below.refl _ _) (Nat.le_succ i)).swap); clear h6)
              go_roundw
              case rel => exact ⟨i + 1, e2, e1, by omega, by go_num, rfl, rfl, rfl, unhide HIN3⟩
              case measure => simp [intOf]; omega
            · have hk8 : 1 ≤ K ∧ K ≤ 8 := by omega
              have HK8 := hide hk8
              have kb10 : (K == 10) = false := beq_eq_false_iff_ne.2 k10
              clear hkin hk8
              go_wp2_with (first
                | (go_at_call 7; refine (plays_step w.heap.size w _ gB i e1 e2 ⟨K, n, p, s⟩ (unhide HIN2) (unhide HO) (by omega) (unhide HK8)).mono ?_; rintro e w5 ⟨v, rfl, rfl, h5⟩; have HIN3 := hide h5; clear h5)
                | (go_at_call 8; refine (plays_looks w.heap.size w _ gB (i + 1) e1 e2 (unhide HIN3) (by omega)).mono ?_; rintro e w6 ⟨rfl, h6⟩; have HIN4 := hide h6; clear h6))
              go_roundw
              case rel => exact ⟨i + 1, e1, e2, by omega, by go_num, rfl, rfl, rfl, unhide HIN4⟩
              case measure => simp [intOf]; omega
    · have e : i = S.length := by omega
      subst e
      clear hin
      go_wp2_with fail
      go_at_call 25
      refine (plays_ends w.heap.size w _ gB S.length e1 e2 (unhide HIN) (by omega)).mono ?_
      rintro e w5 ⟨rfl, h5⟩
      have HIN2 := hide h5.swap
      clear h5 HIN
      go_wp2_with fail
      go_at_call 25
      refine (plays_ends w.heap.size w _ gB (S.length + 1 + 1) e2 e1 (unhide HIN2) (by omega)).mono ?_
      rintro e w6 ⟨rfl, h6⟩
      have HIN3 := hide h6
      clear h6 HIN2
      go_wp2_with fail
      go_at_call 8
      refine (plays_looks w.heap.size w _ gB (S.length + 1 + 1 + 1 + 1) e2 e1 (unhide HIN3) (by omega)).mono ?_
      rintro e w7 ⟨rfl, h7⟩
      have HB := hide h7.below
      clear h7 HIN3
      go_wp2_with fail
      go_ret
      exact ⟨rfl, unhide HB⟩

set_option maxRecDepth 100000 in
set_option maxHeartbeats 4000000 in
theorem plays_no (w : World) (c k r : Int) (v u : Value) (h : confB c k r = false) :
    Calls Tryz.prog 10 #[.agg #[.int .i64 c, .int .i64 k, .int .i64 r], v, u] w fun e w' => e = .returned (.bool true) ∧ Below w.heap.size w w' := by
  have BB0 := hide (((Below.refl _ _).alloc (Nat.le_refl _) _).alloc (by simp) _ : Below w.heap.size w ((w.alloc (.cells #[.int .i64 c, .int .i64 k, .int .i64 r] 23)).alloc (.cells #[.slice none 0 0, .slice none 0 0, .slice none 0 0, .slice none 0 0, .int .i64 0] 31)))
  have HC := hide h
  clear h
  go_enter Tryz.func10, Tryz.ntmps10
  go_wp2_with fail
  go_at_call 24
  refine (begun_no c k r _ _ (unhide HC)).mono ?_
  rintro e w1 ⟨rfl, b1⟩
  have HB1 := hide (grew_call (unhide BB0) b1)
  clear b1 BB0
  go_wp2_with fail
  go_ret
  exact ⟨rfl, unhide HB1⟩
theorem plays_any (w : World) (c k r : Int) (v : Value) (S : List Oq) (ao : Option Addr) (b off cap : Nat) (kb : Nat) (ks : List Int) (hT : OpsAt w v S ao b off cap) (hok : ∀ (i : Nat) (hi : i < S.length), (S[i]).ok) (hm : S.length ≤ 1048576) (hks : KindsAt w kb ks) (hk10 : ks.length ≤ 10) (hin : ∀ K ∈ ks, (1 ≤ K ∧ K ≤ 8) ∨ K = 10) :
    Calls Tryz.prog 10 #[.agg #[.int .i64 c, .int .i64 k, .int .i64 r], v, .slice (some ⟨kb, 0, none⟩) ks.length ks.length] w fun e w' => e = .returned (.bool true) ∧ Below w.heap.size w w' := by
  cases h : confB c k r with
  | false => exact plays_no w c k r v _ h
  | true =>
    have hc : 1 ≤ c ∧ c ≤ 8 ∧ 1 ≤ k ∧ k ≤ 4 ∧ 2 ≤ r ∧ r ≤ 100 := of_decide_eq_true h
    obtain ⟨c', rfl⟩ : ∃ c' : Nat, c = c' := ⟨c.toNat, by omega⟩
    obtain ⟨k', rfl⟩ : ∃ k' : Nat, k = k' := ⟨k.toNat, by omega⟩
    obtain ⟨r', rfl⟩ : ∃ r' : Nat, r = r' := ⟨r.toNat, by omega⟩
    exact plays_yes w c' k' r' v S ao b off cap kb ks hT hok hm hks hk10 hin (by omega) (by omega) (by omega) (by omega) (by omega) (by omega)

end Go.Proofs.YtgpojbgjfibblaaGreat.texts

namespace Go.Proofs.YtgpojbgjfibblaaGreat.texts
open Go.RowKit
set_option linter.unusedVariables false
attribute [local go_sem ↓] Go.wp_at_zero Go.wp_at_succ

theorem OpsAt.keep {w w1 : World} {v : Value} {S : List Oq} {ao : Option Addr} {b off cap : Nat} (h : OpsAt w v S ao b off cap) (hb : Below w.heap.size w w1) : OpsAt w1 v S ao b off cap :=
  ⟨h.form, h.addr, fun i hi j hj => by
    have hs : j < (S[i]).cells.size := hj
    have e := h.cell i hi j hj
    rw [Array.getElem?_eq_getElem hs] at e ⊢
    exact keep_cell e hb⟩

set_option maxRecDepth 100000 in
set_option maxHeartbeats 4000000 in
theorem takes_any (w : World) (c k r : Int) (v : Value) (S : List Oq) (ao : Option Addr) (b off cap : Nat) (hT : OpsAt w v S ao b off cap) (hok : ∀ (i : Nat) (hi : i < S.length), (S[i]).ok) (hm : S.length ≤ 1048576) :
    Calls Tryz.prog 4 #[.agg #[.int .i64 c, .int .i64 k, .int .i64 r], v] w fun e w' => e = .returned (.bool true) ∧ Below w.heap.size w w' := by
  have HT := hide hT
  have HOK := hide hok
  obtain rfl := hT.form
  clear hT hok
  have hb : Below w.heap.size w ((w.alloc (.cells #[.int .i64 c, .int .i64 k, .int .i64 r] 23)).alloc (.cells #[.int .i64 1, .int .i64 2, .int .i64 3, .int .i64 5, .int .i64 6, .int .i64 7, .int .i64 8, .int .i64 10] 3)) := ((Below.refl _ _).alloc (Nat.le_refl _) _).alloc (by simp) _
  have HB := hide hb
  have KB := heap_alloc_new (w.alloc (.cells #[.int .i64 c, .int .i64 k, .int .i64 r] 23)) (.cells #[.int .i64 1, .int .i64 2, .int .i64 3, .int .i64 5, .int .i64 6, .int .i64 7, .int .i64 8, .int .i64 10] 3)
  have e1 : (w.alloc (.cells #[.int .i64 c, .int .i64 k, .int .i64 r] 23)).heap.size = w.heap.size + 1 := by simp
  rw [e1] at KB
  have HKS : Hid (KindsAt ((w.alloc (.cells #[.int .i64 c, .int .i64 k, .int .i64 r] 23)).alloc (.cells #[.int .i64 1, .int .i64 2, .int .i64 3, .int .i64 5, .int .i64 6, .int .i64 7, .int .i64 8, .int .i64 10] 3)) (w.heap.size + 1) [1, 2, 3, 5, 6, 7, 8, 10]) := by
    intro j hj
    rw [block_cell KB]
    match j, hj with
    | 0, _ => rfl
    | 1, _ => rfl
    | 2, _ => rfl
    | 3, _ => rfl
    | 4, _ => rfl
    | 5, _ => rfl
    | 6, _ => rfl
    | 7, _ => rfl
  clear hb KB e1
  go_enter Tryz.func4, Tryz.ntmps4
  go_wp2_with fail
  go_at_call 10
  refine (plays_any _ c k r _ S ao b off cap (w.heap.size + 1) [1, 2, 3, 5, 6, 7, 8, 10] ((unhide HT).keep (unhide HB)) (unhide HOK) hm (unhide HKS) (by decide) (by decide)).mono ?_
  rintro e w1 ⟨rfl, b1⟩
  have HB1 := hide (grew_call (unhide HB) b1)
  clear b1
  go_wp2_with fail
  go_ret
  exact ⟨rfl, unhide HB1⟩

end Go.Proofs.YtgpojbgjfibblaaGreat.texts
