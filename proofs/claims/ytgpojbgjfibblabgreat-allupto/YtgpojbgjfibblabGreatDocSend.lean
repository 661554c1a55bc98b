/-
  The walk of the document's Send.
  Conditions stand in each theorem.
-/
import Derived.Test.YtgpojbgjfibblabGreatPart23
import Derived.Deep.DeepCutAuto
namespace Go.Proofs.YtgpojbgjfibblabGreat.texts
open Go.RowKit
set_option linter.unusedVariables false
attribute [local go_sem ↓] Go.wp_at_zero Go.wp_at_succ
attribute [local go_sem ↓] loadRc_eq storeRc_eq storeRs_eq
attribute [local go_sem] run_loadRc run_storeRc run_storeRs
attribute [local go_sem] bs_size

theorem rfollow_any (x : Rc) (p : Pk) (w : World) (hs : StsAt w x.sv x.sts) (hw : x.well) (hp : p.ok) :
    Calls Tryz.prog 45 #[.agg x.cells, .agg p.flat] w fun e w' => e = .returned (.agg (docNext x p).flat) ∧ Below w.heap.size w w' := by
  unfold docNext strideV
  rcases hs with ⟨h1, h2⟩ | ⟨q, o, cap, h1, h2, h3, h4⟩
  · rw [h1]
    exact rfollow_nil x.cells p w (by rw [← h2]; rfl) hp
  · by_cases h0 : x.sts = []
    · have h2 := hw.nil h0
      rw [h0]
      exact rfollow_nil x.cells p w (by rw [← h2]; rfl) hp
    · obtain ⟨L, hL⟩ : ∃ L, x.sts.length = L + 1 := ⟨x.sts.length - 1, by have := List.length_pos_iff.2 h0; omega⟩
      have hlast : x.sts.getLast? = some (x.sts[L]'(by omega)) := by
        rw [List.getLast?_eq_getElem?, show x.sts.length - 1 = L by omega]
        exact List.getElem?_eq_getElem (by omega)
      rw [hlast]
      have r := h4 L (by omega)
      exact rfollow_some x.cells q o cap x.time x.sts (x.sts[L]'(by omega)) p w (by rw [← h1]; rfl) rfl (by omega) h3 (by rw [show x.sts.length - 1 = L by omega]; exact r) (hw.sts _ (List.getElem_mem _)) hw.time hp

theorem own_dn {w : World} {b1 b2 : Nat} {e : TypeId} {size : Nat} {v : Value} {n : Nat} {xs : List Value} (h : w.ownsRow b1 e size v n xs) (hb : b2 ≤ b1) : w.ownsRow b2 e size v n xs := by
  refine ⟨h.1, ?_⟩
  rcases h.2 with h2 | ⟨g, cap, cur, hl, hg, r⟩
  · exact Or.inl h2
  · exact Or.inr ⟨g, cap, cur, hl, by omega, r⟩
theorem StsAt.form {w : World} {v : Value} {l : List St} (h : StsAt w v l) : ∃ ao cap, v = .slice ao l.length cap := by
  rcases h with ⟨rfl, rfl⟩ | ⟨q, o, cap, rfl, _⟩
  · exact ⟨_, _, rfl⟩
  · exact ⟨_, _, rfl⟩

/-- the End, the flat packet and the context that is at work -/
structure InDd (w : World) (g gl : Nat) (d : Doc) (p : Pk) (gf gx : Nat) (x : Rc) (w1 : World) : Prop where
  doc : DocAt w1 g gl d
  pk : w1.heap[w.heap.size]? = some (.cells p.cells 43 (0, 0))
  fl : w1.heap[gf]? = some (.cells p.flat 120 (0, 0))
  cx : w1.heap[gx]? = some (.cells x.cells 126 (0, 0))
  gb : g < w.heap.size
  lb : gl < w.heap.size
  xb : w.heap.size < gx
  below : Below w.heap.size w w1
theorem InDd.call {w w1 w2 : World} {g gl gf gx : Nat} {d : Doc} {p : Pk} {x : Rc} (h : InDd w g gl d p gf gx x w1) (hb : Below w1.heap.size w1 w2) : InDd w g gl d p gf gx x w2 :=
  ⟨h.doc.keep hb, block_keep h.pk hb, block_keep h.fl hb, block_keep h.cx hb, h.gb, h.lb, h.xb, keep_below h.below hb (Nat.le_of_lt (block_lt h.pk))⟩
theorem InDd.drew {w w1 : World} {g gl gf gx : Nat} {d : Doc} {p : Pk} {x : Rc} (h : InDd w g gl d p gf gx x w1) : InDd w g gl d p gf gx x w1.drew := ⟨⟨h.doc.head, h.doc.rows, h.doc.sl⟩, h.pk, h.fl, h.cx, h.gb, h.lb, h.xb, h.below.drew⟩
theorem InDd.put {w w1 : World} {g gl gf gx : Nat} {d : Doc} {p : Pk} {x : Rc} (h : InDd w g gl d p gf gx x w1) (x' : Rc) : InDd w g gl d p gf gx x' (w1.setRow gx x'.cells) :=
  have h1 := h.gb
  have h2 := h.lb
  have h3 := h.xb
  have n1 : gf ≠ gx := apart_ty h.fl h.cx (by decide)
  ⟨⟨by rw [setRow_other _ _ _ _ (by omega)]; exact h.doc.head, by rw [setRow_other _ _ _ _ (by omega)]; exact h.doc.rows, h.doc.sl⟩, by rw [setRow_other _ _ _ _ (by omega)]; exact h.pk, by rw [setRow_other _ _ _ _ n1]; exact h.fl, setRow_heap _ _ _ _ _ _ h.cx, h1, h2, h3, below_setRow h.below (by omega) _⟩
theorem InDd.cell {w w1 : World} {g gl gf gx : Nat} {d : Doc} {p : Pk} {x : Rc} (h : InDd w g gl d p gf gx x w1) (j : Nat) (v : Value) {x' : Rc} (hx : x.cells.setIfInBounds j v = x'.cells) : InDd w g gl d p gf gx x' (w1.setCell ⟨gx, j, none⟩ v) := by
  rw [setCell_eq_setRow w1 gx j _ _ _ v h.cx, hx]
  exact h.put x'
theorem InDd.sts {w w1 : World} {g gl gf gx : Nat} {d : Doc} {p : Pk} {x : Rc} (h : InDd w g gl d p gf gx x w1) {v : Value} {l : List St} (hs : StsAt w v l) : StsAt w1 v l := hs.keep h.below
theorem InDd.out {w w1 : World} {g gl gf gx : Nat} {d : Doc} {p : Pk} {x : Rc} (h : InDd w g gl d p gf gx x w1) {X : Array Value} (hX : X = x.cells) :
    RcIn w1 gx 0 ∧ rcOf w1 gx 0 = X ∧ w1.cell? ⟨g, 0, none⟩ = some (.int .i64 d.cids) ∧ w1.cell? ⟨g, 1, none⟩ = some (.int .i64 d.keep) ∧ w1.cell? ⟨g, 2, none⟩ = some (.int .i64 d.refresh) ∧ InDd w g gl d p gf gx x w1 :=
  ⟨block_rcIn h.cx, by rw [hX]; exact block_rcOf h.cx, block_cell h.doc.head 0, block_cell h.doc.head 1, block_cell h.doc.head 2, h⟩
/-- and the packet's state -/
structure InDe (w : World) (g gl : Nat) (d : Doc) (p : Pk) (gf gx : Nat) (x : Rc) (gs : Nat) (n : St) (w1 : World) : Prop where
  all : InDd w g gl d p gf gx x w1
  st : w1.heap[gs]? = some (.cells n.flat 128 (0, 0))
theorem InDe.call {w w1 w2 : World} {g gl gf gx gs : Nat} {d : Doc} {p : Pk} {x : Rc} {n : St} (h : InDe w g gl d p gf gx x gs n w1) (hb : Below w1.heap.size w1 w2) : InDe w g gl d p gf gx x gs n w2 := ⟨h.all.call hb, block_keep h.st hb⟩
theorem InDe.drew {w w1 : World} {g gl gf gx gs : Nat} {d : Doc} {p : Pk} {x : Rc} {n : St} (h : InDe w g gl d p gf gx x gs n w1) : InDe w g gl d p gf gx x gs n w1.drew := ⟨h.all.drew, h.st⟩
theorem InDe.cell {w w1 : World} {g gl gf gx gs : Nat} {d : Doc} {p : Pk} {x : Rc} {n : St} (h : InDe w g gl d p gf gx x gs n w1) (j : Nat) (v : Value) {x' : Rc} (hx : x.cells.setIfInBounds j v = x'.cells) : InDe w g gl d p gf gx x' gs n (w1.setCell ⟨gx, j, none⟩ v) :=
  ⟨h.all.cell j v hx, block_set h.st (by exact apart_ty h.st h.all.cx (by decide)) v⟩
theorem InDe.out {w w1 : World} {g gl gf gx gs : Nat} {d : Doc} {p : Pk} {x : Rc} {n : St} (h : InDe w g gl d p gf gx x gs n w1) {X : Array Value} (hX : X = x.cells) :
    RcIn w1 gx 0 ∧ rcOf w1 gx 0 = X ∧ w1.cell? ⟨g, 0, none⟩ = some (.int .i64 d.cids) ∧ w1.cell? ⟨g, 1, none⟩ = some (.int .i64 d.keep) ∧ w1.cell? ⟨g, 2, none⟩ = some (.int .i64 d.refresh) ∧ w1.cell? ⟨gs, 0, none⟩ = some (.int .i64 n.seq) ∧ w1.cell? ⟨gs, 1, none⟩ = some (.int .i64 n.stride) ∧ w1.cell? ⟨gs, 2, none⟩ = some (.int .i64 n.offset) ∧ w1.cell? ⟨gs, 3, none⟩ = some (.int .i64 n.lag) ∧ w1.cell? ⟨gs, 4, none⟩ = some (.int .i64 n.flags) ∧ InDe w g gl d p gf gx x gs n w1 := by
  obtain ⟨y1, y2, d0, d1, d2, _⟩ := h.all.out hX
  exact ⟨y1, y2, d0, d1, d2, block_cell h.st 0, block_cell h.st 1, block_cell h.st 2, block_cell h.st 3, block_cell h.st 4, h⟩
/-- the last stores: the context's new states are owned -/
structure InDg (w : World) (g gl : Nat) (d : Doc) (p : Pk) (gf gx : Nat) (x : Rc) (gs : Nat) (n : St) (v : Value) (l : List St) (w1 : World) : Prop where
  doc : DocAt w1 g gl d
  fl : w1.heap[gf]? = some (.cells p.flat 120 (0, 0))
  cx : w1.heap[gx]? = some (.cells x.cells 126 (0, 0))
  st : w1.heap[gs]? = some (.cells n.flat 128 (0, 0))
  own : w1.ownsRow w.heap.size 128 5 v l.length (scells l)
  gb : g < w.heap.size
  lb : gl < w.heap.size
  xb : w.heap.size < gx
  only : Only (fun k => k = g ∨ k = gl) w w1
theorem own_cell {w : World} {B : Nat} {e t : TypeId} {s n : Nat} {v : Value} {xs : List Value} {cs : Array Value} {fr : Nat × Nat} (h : w.ownsRow B e s v n xs) {a : Addr} (ha : w.heap[a.block]? = some (.cells cs t fr)) (ht : e ≠ t) (u : Value) : (w.setCell a u).ownsRow B e s v n xs :=
  own_same h (fun q hq => by obtain ⟨cur, hc⟩ := own_ty h hq; exact Below.heap_setCell _ _ _ _ (apart_ty hc ha ht))
theorem InDg.cell {w w1 : World} {g gl gf gx gs : Nat} {d : Doc} {p : Pk} {x : Rc} {n : St} {v : Value} {l : List St} (h : InDg w g gl d p gf gx x gs n v l w1) (j : Nat) (u : Value) {x' : Rc} (hx : x.cells.setIfInBounds j u = x'.cells) : InDg w g gl d p gf gx x' gs n v l (w1.setCell ⟨gx, j, none⟩ u) := by
  have h1 := h.gb
  have h2 := h.lb
  have h3 := h.xb
  have b := heap_setCell_same w1 gx j _ _ u h.cx
  rw [hx] at b
  have o : Only (fun k => k = g ∨ k = gl) w (w1.setCell ⟨gx, j, none⟩ u) := by
    have := h.only.new (g := gx) (by omega) (x.cells.setIfInBounds j u)
    rw [← setCell_eq_setRow w1 gx j _ _ _ u h.cx] at this
    exact this
  exact ⟨⟨block_set h.doc.head (by show g ≠ gx; omega) u, block_set h.doc.rows (by show gl ≠ gx; omega) u, h.doc.sl⟩, block_set h.fl (apart_ty h.fl h.cx (by decide)) u, b, block_set h.st (apart_ty h.st h.cx (by decide)) u, own_cell h.own (a := ⟨gx, j, none⟩) h.cx (by decide) u, h1, h2, h3, o⟩
theorem InDg.sent {w w1 : World} {g gl gf gx gs : Nat} {d : Doc} {p : Pk} {x : Rc} {n : St} {v : Value} {l : List St} (h : InDg w g gl d p gf gx x gs n v l w1) (s : Nat) : InDg w g gl { d with sent := s } p gf gx x gs n v l (w1.setCell ⟨g, 4, none⟩ (.int .i64 s)) := by
  have h1 := h.gb
  have h3 := h.xb
  have b := heap_setCell_same w1 g 4 _ _ (.int .i64 s) h.doc.head
  exact ⟨⟨b, block_set h.doc.rows (apart_ty h.doc.rows h.doc.head (by decide)) _, h.doc.sl⟩, block_set h.fl (apart_ty h.fl h.doc.head (by decide)) _, block_set h.cx (by show gx ≠ g; omega) _, block_set h.st (apart_ty h.st h.doc.head (by decide)) _, own_cell h.own (a := ⟨g, 4, none⟩) h.doc.head (by decide) _, h1, h.lb, h3, h.only.setCell (Or.inl rfl) _⟩
theorem InDg.stored {w w1 : World} {g gl gf gx gs : Nat} {d : Doc} {p : Pk} {x : Rc} {n : St} {v : Value} {l : List St} (h : InDg w g gl d p gf gx x gs n v l w1) (i : Nat) (hi : i < d.cs.length) (hx : ∃ a l c, x.sv = .slice a l c) : InDg w g gl (d.set i x) p gf gx x gs n v l (w1.setRow gl (putRow (rowOf w1 gl) (i * 13) x.cells.toList)) := by
  have h2 := h.lb
  have h3 := h.xb
  have e : rowOf w1 gl = d.row.toArray := by unfold rowOf; rw [h.doc.rows]
  have hl : (d.set i x).cs.length = d.cs.length := by simp [Doc.set]
  rw [e, Doc.putAll d x hi]
  refine ⟨⟨?_, setRow_heap _ _ _ _ _ _ h.doc.rows, fun j hj => ?_⟩, ?_, ?_, ?_, ?_, h.gb, h2, h3, h.only.setRow (Or.inr rfl) _⟩
  · rw [hl, setRow_other _ _ _ _ (apart_ty h.doc.head h.doc.rows (by decide))]; exact h.doc.head
  · rw [Doc.set_at d i j x hi]
    split
    · exact hx
    · exact h.doc.sl j (by omega)
  · rw [setRow_other _ _ _ _ (apart_ty h.fl h.doc.rows (by decide))]; exact h.fl
  · rw [setRow_other _ _ _ _ (by omega)]; exact h.cx
  · rw [setRow_other _ _ _ _ (apart_ty h.st h.doc.rows (by decide))]; exact h.st
  · exact own_same h.own (fun q hq => by obtain ⟨cur, hc⟩ := own_ty h.own hq; exact setRow_other _ _ _ _ (apart_ty hc h.doc.rows (by decide)))
theorem InDg.call {w w1 w2 : World} {g gl gf gx gs : Nat} {d : Doc} {p : Pk} {x : Rc} {n : St} {v : Value} {l : List St} (h : InDg w g gl d p gf gx x gs n v l w1) (hb : Below w1.heap.size w1 w2) : InDg w g gl d p gf gx x gs n v l w2 :=
  ⟨h.doc.keep hb, block_keep h.fl hb, block_keep h.cx hb, block_keep h.st hb, own_same h.own (fun q hq => by obtain ⟨cur, hc⟩ := own_ty h.own hq; exact hb.block q (block_lt hc)), h.gb, h.lb, h.xb, h.only.trans (Only.of_below hb)⟩
theorem InDg.drew {w w1 : World} {g gl gf gx gs : Nat} {d : Doc} {p : Pk} {x : Rc} {n : St} {v : Value} {l : List St} (h : InDg w g gl d p gf gx x gs n v l w1) : InDg w g gl d p gf gx x gs n v l w1.drew :=
  h.call ((Below.refl _ _).drew)

theorem goodRc_new (a b c t k : Int) : GoodRc #[.bool true, .int .u32 a, .int .u32 b, .int .u16 c, .int .i64 t, .slice none 0 0, .int .i64 0, .int .i64 k, .int .i64 0, .int .i64 0, .int .i64 0, .int .i64 0, .int .i64 0] := ⟨rfl, Array.all_eq_true_iff_forall_mem.2 (fun v hv => by
  simp only [List.mem_toArray, List.mem_cons, List.not_mem_nil, or_false] at hv
  rcases hv with e | e | e | e | e | e | e | e | e | e | e | e | e <;> (subst e; rfl))⟩
attribute [local go_sem] goodRc_new

theorem docMet_well {d : Doc} {p : Pk} {i : Nat} {fresh : Bool} (h : (d.at_ i).well) (hk : d.keep ≤ 4) : (docMet d p i fresh).well := by
  unfold docMet
  split
  · refine ⟨?_, fun s hs => by simp at hs, by simp, hk, by simp, by simp, by simp, by simp, fun _ => rfl, ⟨none, 0, 0, rfl⟩⟩
    show (if (d.at_ i).has = true then ((d.at_ i).turn + 1) % 4 else 0) < 4
    split <;> omega
  · exact h
theorem docMet_sts {w : World} {B : Nat} {d : Doc} {p : Pk} {i : Nat} {fresh : Bool} (h : StsIn w B d) (hi : i < d.cs.length) : w.ownsRow B 128 5 (docMet d p i fresh).sv (docMet d p i fresh).sts.length (scells (docMet d p i fresh).sts) := by
  unfold docMet
  split
  · exact World.ownsRow_nil _ _ _ _
  · exact (h i hi).1

theorem strideV_lt {l : List St} {t : Nat} {p : Pk} (h : ∀ s ∈ l, s.ok) : strideV l t p < 65536 := by
  unfold strideV
  split
  · omega
  · rename_i s hs
    have := (h s (List.mem_of_getLast? hs)).stride
    split <;> omega
theorem docNext_ok {x : Rc} {p : Pk} (h : x.well) (hp : p.ok) : (docNext x p).ok := stateN_ok hp (strideV_lt h.sts)
theorem kindV_le (whole full age refresh : Nat) (n : St) (L : List St) : kindV whole full age refresh n L ≤ 3 := by
  unfold kindV
  have := most_le n L
  split
  · omega
  · split <;> omega
theorem docKind_le (x : Rc) (n : St) (k r : Nat) : docKind x n k r ≤ 3 := kindV_le _ _ _ _ _ _
theorem infoFlat : (Tryz.prog.info? 120).map (·.size) = some 8 := by kernel_rfl

theorem last_c1 (w : World) (n : St) : ∀ j u, n.flat.toList[j]? = some u → (w.alloc (.cells #[.int .i64 (n.seq : Int), .int .i64 (n.stride : Int), .int .i64 (n.offset : Int), .int .i64 (n.lag : Int), .int .i64 (n.flags : Int)] 128)).cell? ((⟨w.heap.size, 0, none⟩ : Addr).add j) = some u := by
  intro i u hu
  rw [Addr.add_mid, Nat.zero_add, block_cell (heap_alloc_new w _)]
  simpa [St.flat] using hu
theorem last_c2 (n : St) : ∀ u ∈ n.flat.toList, u.oneCell' = true := fun u hu => Array.all_eq_true_iff_forall_mem.1 (St.flat_one n) u (by simpa using hu)
/-- the new states are made -/
theorem docLast {w wc wr w21 : World} {g gl gf gx gs : Nat} {d : Doc} {p : Pk} {x : Rc} {n : St} {L : List St} {lv v' : Value} {O : Obj} (hE : InDe w g gl d p gf gx x gs n wc) (hb : Below wc.heap.size wc wr) (ho : wr.ownsRow wc.heap.size 128 5 lv L.length (scells L)) (hz : w.heap.size ≤ wc.heap.size)
    (hown : w21.ownsRow wc.heap.size 128 5 v' (L.length + 1) (scells L ++ n.flat.toList)) (hg : (wr.alloc O).grownBy w21 lv.ownBlock) : InDg w g gl d p gf gx x gs n v' (L ++ [n]) w21 := by
  have hzr := hb.size
  have R2 : Below wc.heap.size wc w21 := (hb.alloc hzr _).grown hg (by simp; omega) (fun k hk => (ho.lt k hk).1)
  have E22 := hE.call R2
  refine ⟨E22.all.doc, E22.all.fl, E22.all.cx, E22.st, ?_, E22.all.gb, E22.all.lb, E22.all.xb, Only.of_below E22.all.below⟩
  rw [List.length_append, scells_snoc]
  exact own_dn hown hz

def DocSent (d : Doc) (p : Pk) (w : World) (g gl B : Nat) (e : Ending) (w' : World) : Prop :=
  ∃ i fresh v, PlaceIs d p.src p.dst p.port i fresh ∧ e = .returned (.tuple #[.string (bs (frameN (docKind (docMet d p i fresh) (docNext (docMet d p i fresh) p) d.keep d.refresh) (docMet d p i fresh).turn i (docNext (docMet d p i fresh) p) p)), .int .i64 0])
    ∧ DocAt w' g gl (docSend d p i fresh v) ∧ StsIn w' B (docSend d p i fresh v) ∧ Only (fun k => k = g ∨ k = gl) w w'

theorem docSent_end {d : Doc} {p : Pk} {w w' : World} {g gl B i gf gx gs : Nat} {fresh : Bool} {x e4 : Rc} {v : Value} {n : St} {kd : Nat} {L : List St} (hpl : PlaceIs d p.src p.dst p.port i fresh) (h : DocAt w g gl d) (hst : StsIn w B d) (hB : B ≤ w.heap.size)
    (hG : InDg w g gl (({ d with sent := d.sent + 1 } : Doc).set i e4) p gf gx e4 gs n v (L ++ [n]) w') (he4 : e4 = docSent x v kd n p d.keep (d.sent + 1)) (hx : x = docMet d p i fresh) (hn : n = docNext x p) (hkd : kd = docKind x n d.keep d.refresh) (hk4 : d.keep ≤ 4) (hL4 : L.length ≤ 4) (hL : L = x.sts.drop (x.sts.length - d.keep)) :
    DocSent d p w g gl B (.returned (.tuple #[.string (bs (frameN kd x.turn i n p)), .int .i64 0])) w' := by
  have hi := hpl.1
  have hd : ({ d with sent := d.sent + 1 } : Doc).set i e4 = docSend d p i fresh v := by
    rw [he4, hkd, hn, hx]
    rfl
  have e5 : e4.sv = v ∧ e4.sts = L ++ [n] := by
    rw [he4, hL]
    exact ⟨rfl, rfl⟩
  rw [hd] at hG
  refine ⟨i, fresh, v, hpl, by rw [hkd, hn, hx], hG.doc, fun j hj => ?_, hG.only⟩
  have hlen : (docSend d p i fresh v).cs.length = d.cs.length := by simp [docSend, Doc.set]
  rw [hlen] at hj
  have hat : (docSend d p i fresh v).at_ j = if j = i then e4 else d.at_ j := by
    rw [← hd]
    exact Doc.set_at _ i j e4 hi
  rw [hat]
  by_cases e : j = i
  · rw [if_pos e, e5.1, e5.2]
    exact ⟨own_dn hG.own hB, by rw [List.length_append]; simp; omega⟩
  · rw [if_neg e]
    refine ⟨own_same (hst j hj).1 (fun q hq => ?_), (hst j hj).2⟩
    obtain ⟨cur, hc⟩ := own_ty (hst j hj).1 hq
    refine hG.only.block q (block_lt hc) ?_
    rintro (rfl | rfl)
    · exact apart_ty hc h.head (by decide) rfl
    · exact apart_ty hc h.rows (by decide) rfl

set_option maxRecDepth 100000 in
set_option maxHeartbeats 8000000 in
theorem dsend_any (d : Doc) (g gl B : Nat) (p : Pk) (w : World) (h : DocAt w g gl d) (hst : StsIn w B d) (hB : B ≤ w.heap.size) (hp : p.ok) (hb : p.body.length ≤ 100) (hwell : ∀ i, i < d.cs.length → (d.at_ i).well) (hl0 : 0 < d.cs.length) (hl8 : d.cs.length ≤ 8)
    (hk1 : 1 ≤ d.keep) (hk4 : d.keep ≤ 4) (hr2 : 2 ≤ d.refresh) (hr100 : d.refresh ≤ 100) (hsn : d.sent + 1 < 4611686018427387904) :
    Calls Tryz.prog 23 #[.pointer (some ⟨g, 0, none⟩), .agg p.cells] w fun e w' => DocSent d p w g gl B e w' := by
  obtain ⟨Z, hZ⟩ : ∃ Z : Array Value, Z = Rc.blank.cells := ⟨_, rfl⟩
  have zv : ∀ w, (zeroValue 126).run Tryz.prog w = .ok (.agg Z) w := by rw [hZ]; intro w; exact Tryz.zeroValue126 w
  have HZ := hide hZ
  clear hZ
  have HP := hide hp
  have H := hide h
  have HST := hide hst
  have HSTS := hide hst
  have HW := hide hwell
  have hgw := block_lt h.head
  have hlw := block_lt h.rows
  obtain ⟨N0, hN0⟩ : ∃ n, n = d.cs.length := ⟨_, rfl⟩
  have HN0 := hide hN0
  rw [← hN0] at hl0 hl8
  clear h hst hwell hp hN0
  unfold Pk.cells
  go_enter Tryz.func23, Tryz.ntmps23
  go_wp2_with fail
  have PK0 := hide (heap_alloc_new w (.cells p.cells 43))
  go_at_call 43
  refine (flatten_any p _ (unhide HP)).mono ?_
  rintro e w1 ⟨rfl, hb1⟩
  have PK1 := hide (block_keep (unhide PK0) hb1)
  have D1 := hide (DocAt.keep ⟨block_alloc (unhide H).head (.cells p.cells 43), block_alloc (unhide H).rows _, (unhide H).sl⟩ hb1 : DocAt w1 g gl d)
  have BB1 := hide (grew_call ((Below.refl _ _).alloc (Nat.le_refl _) _) hb1 : Below w.heap.size w w1)
  have hw1 : w.heap.size < w1.heap.size := block_lt (unhide PK1)
  have q0 : w1.cell? ⟨w.heap.size, 0, none⟩ = some (.int .u32 (p.src : Int)) := block_cell (unhide PK1) 0
  have q1 : w1.cell? ⟨w.heap.size, 1, none⟩ = some (.int .u32 (p.dst : Int)) := block_cell (unhide PK1) 1
  have q2 : w1.cell? ⟨w.heap.size, 2, none⟩ = some (.int .u16 (p.port : Int)) := block_cell (unhide PK1) 2
  clear hb1
  unfold Pk.flat
  go_wp2_with fail
  have FL1 := hide (heap_alloc_new w1 (.cells p.flat 120))
  have al1 : Below w1.heap.size w1 (w1.alloc (.cells p.flat 120)) := (Below.refl _ _).alloc (Nat.le_refl _) _
  go_at_call 44
  refine (place_any d g gl p.src p.dst p.port _ ((unhide D1).keep al1) (by rw [← unhide HN0]; exact hl0) (by rw [← unhide HN0]; exact hl8)).mono ?_
  rintro e w2 ⟨⟨i, fresh, rfl, hpl⟩, hb2⟩
  have HPL := hide hpl
  have hi : i < N0 := by rw [unhide HN0]; exact hpl.1
  have i0 : (0 : Int) ≤ (i : Int) := by omega
  have i1 : (i : Int) < (N0 : Int) := by omega
  have D2 : DocAt w2 g gl d := ((unhide D1).keep al1).keep hb2
  have PK2 := block_keep (block_alloc (unhide PK1) (.cells p.flat 120)) hb2
  have FL2 := block_keep (unhide FL1) hb2
  have BB2 := grew_call (grew_alloc (unhide BB1) (.cells p.flat 120)) hb2
  have hid : i < d.cs.length := by rw [← unhide HN0]; exact hi
  have hd3 : w2.cell? ⟨g, 3, none⟩ = some (.slice (some ⟨gl, 0, none⟩) N0 N0) := by
    have := block_cell D2.head 3
    rw [← unhide HN0] at this
    exact this
  have x1 := D2.rcIn hid
  have x2 := D2.rcOf hid
  obtain ⟨x0, hx0⟩ : ∃ x0, x0 = d.at_ i := ⟨_, rfl⟩
  rw [← hx0] at x2
  obtain ⟨X0, hX0⟩ : ∃ X0, X0 = x0.cells := ⟨_, rfl⟩
  rw [← hX0] at x2
  have hsl0 : ∃ a l c, x0.sv = .slice a l c := by rw [hx0]; exact D2.sl i hid
  have gs := run_storeRc_new w2 X0 Z 126 (by rw [hX0]; exact Rc.good_ hsl0) (by rw [unhide HZ]; rfl)
  have hw2 : w1.heap.size < w2.heap.size := block_lt FL2
  have I0 : InDd w g gl d p w1.heap.size w2.heap.size x0 (w2.alloc (.cells X0 126)) := ⟨⟨block_alloc D2.head _, block_alloc D2.rows _, D2.sl⟩, block_alloc PK2 _, block_alloc FL2 _, by rw [hX0]; exact heap_alloc_new w2 _, hgw, hlw, by omega, grew_alloc BB2 _⟩
  have HI := hide I0
  have HX0 := hide hX0
  have Hx0 := hide hx0
  clear hb2 D2 PK2 FL2 BB2 hX0 hx0 I0 PK1 D1 BB1 PK0 FL1 al1 q0 q1 q2 hpl
  go_upto_if 36 with fail
  clear x1 x2 gs hd3 hw1 hw2
  generalize w2.alloc (.cells X0 126) = w3 at HI ⊢
  generalize w2.heap.size = gx at HI ⊢
  generalize w1.heap.size = gf at HI ⊢
  obtain ⟨x, hx⟩ : ∃ x, x = docMet d p i fresh := ⟨_, rfl⟩
  have Hx := hide hx
  have ht0 : x0.turn < 4 := by rw [unhide Hx0]; exact (unhide HW i hid).turn
  clear hx
  go_cut [9] (fun v wx => v = .pointer (some ⟨gx, 0, none⟩) ∧ InDd w g gl d p gf gx x wx)
  case first =>
    cases fresh with
    | false =>
      have e : x = x0 := by rw [unhide Hx, unhide Hx0]; rfl
      have HI2 : Hid (InDd w g gl d p gf gx x w3) := by rw [e]; exact HI
      clear e HI
      go_wp2_with fail
      go_meet
      case rel => exact ⟨rfl, unhide HI2⟩
    | true =>
      clear zv
      have I := unhide HI
      have y0 : w3.cell? ⟨gx, 0, none⟩ = some (.bool x0.has) := block_cell I.cx 0
      have y4 : w3.cell? ⟨gx, 4, none⟩ = some (.int .i64 (x0.turn : Int)) := block_cell I.cx 4
      have q0 : w3.cell? ⟨w.heap.size, 0, none⟩ = some (.int .u32 (p.src : Int)) := block_cell I.pk 0
      have q1 : w3.cell? ⟨w.heap.size, 1, none⟩ = some (.int .u32 (p.dst : Int)) := block_cell I.pk 1
      have q2 : w3.cell? ⟨w.heap.size, 2, none⟩ = some (.int .u16 (p.port : Int)) := block_cell I.pk 2
      have d1 : w3.cell? ⟨g, 1, none⟩ = some (.int .i64 (d.keep : Int)) := block_cell I.doc.head 1
      have q0d : w3.drew.cell? ⟨w.heap.size, 0, none⟩ = some (.int .u32 (p.src : Int)) := q0
      have q1d : w3.drew.cell? ⟨w.heap.size, 1, none⟩ = some (.int .u32 (p.dst : Int)) := q1
      have q2d : w3.drew.cell? ⟨w.heap.size, 2, none⟩ = some (.int .u16 (p.port : Int)) := q2
      have d1d : w3.drew.cell? ⟨g, 1, none⟩ = some (.int .i64 (d.keep : Int)) := d1
      have gz : RcTo w3 gx 0 := ⟨_, _, I.cx, by rw [Rc.cells_size]; omega⟩
      have gzd : RcTo w3.drew gx 0 := gz
      have HX1 := hide (show x = ⟨true, p.src, p.dst, p.port, if x0.has = true then (x0.turn + 1) % 4 else 0, .slice none 0 0, [], 0, d.keep, 0, 0, 0, 0, 0⟩ by rw [unhide Hx, unhide Hx0]; rfl)
      have HRow := hide (show ∀ C : Array Value, C = x.cells → InDd w g gl d p gf gx x (w3.drew.setRow gx (putRow (rowOf w3.drew gx) 0 C.toList)) by
        intro C hC
        have e : rowOf w3.drew gx = x0.cells := by
          have := (unhide HI).drew.cx
          unfold rowOf
          rw [this]
        rw [e, hC, put_all13 _ _ rfl rfl]
        exact (unhide HI).drew.put x)
      clear I
      cases hh : x0.has with
      | false =>
        rw [hh] at y0
        go_wp2_with fail
        go_region
        all_goals
          have HI2 := hide (unhide HRow #[.bool true, .int .u32 (p.src : Int), .int .u32 (p.dst : Int), .int .u16 (p.port : Int), .int .i64 0, .slice none 0 0, .int .i64 0, .int .i64 (d.keep : Int), .int .i64 0, .int .i64 0, .int .i64 0, .int .i64 0, .int .i64 0] (by rw [unhide HX1, hh]; rfl))
          go_wp2_with fail
          go_meet
          case rel => exact ⟨rfl, unhide HI2⟩
      | true =>
        rw [hh] at y0
        obtain ⟨T, hT⟩ : ∃ T : Nat, T = (x0.turn + 1) % 4 := ⟨_, rfl⟩
        have x1 : IntKind.i64.wrap ((x0.turn : Int) + 1) = (x0.turn : Int) + 1 := by rw [IntKind.wrap_i64]; omega
        have x3 : ((x0.turn : Int) + 1).tmod 4 = (T : Int) := by rw [hT]; rw [Int.tmod_eq_emod_of_nonneg (by omega)]; omega
        have x4 : ((x0.turn : Int) + 1) % 4 = (T : Int) := by rw [hT]; omega
        have HT := hide hT
        clear hT
        go_wp2_with fail
        go_region
        all_goals
          have HI2 := hide (unhide HRow #[.bool true, .int .u32 (p.src : Int), .int .u32 (p.dst : Int), .int .u16 (p.port : Int), .int .i64 (T : Int), .slice none 0 0, .int .i64 0, .int .i64 (d.keep : Int), .int .i64 0, .int .i64 0, .int .i64 0, .int .i64 0, .int .i64 0] (by rw [unhide HX1, hh, unhide HT]; rfl))
          go_wp2_with fail
          go_meet
          case rel => exact ⟨rfl, unhide HI2⟩
  case rest =>
    obtain ⟨rfl, I4⟩ := hcut
    have hwx : x.well := by rw [unhide Hx]; exact docMet_well (unhide HW i hid) hk4
    have hsx : StsAt w x.sv x.sts := StsAt.of_own (by rw [unhide Hx]; exact docMet_sts (unhide HST) hid) (by have := hwx.few; omega)
    have HWX := hide hwx
    have HSX := hide hsx
    clear hwx hsx HI ht0
    obtain ⟨X, hX⟩ : ∃ X, X = x.cells := ⟨_, rfl⟩
    obtain ⟨y1, y2, d0, d1, d2, _⟩ := I4.out hX
    have HXX := hide hX
    have HI4 := hide I4
    obtain ⟨n, hn⟩ : ∃ n, n = docNext x p := ⟨_, rfl⟩
    have HNN := hide hn
    have hnok : n.ok := by rw [hn]; exact docNext_ok (unhide HWX) (unhide HP)
    have HNO := hide hnok
    obtain ⟨NF, hNF⟩ : ∃ NF, NF = n.flat := ⟨_, rfl⟩
    have HNF := hide hNF
    obtain ⟨Z5, hZ5⟩ : ∃ Z5 : Array Value, Z5 = St.zero.flat := ⟨_, rfl⟩
    have zv5 : ∀ w, (zeroValue 128).run Tryz.prog w = .ok (.agg Z5) w := by rw [hZ5]; intro w; exact Tryz.zeroValue128 w
    have gs5 := fun w => run_storeRs_new w NF Z5 (by rw [hNF]; rfl) (by rw [hNF]; exact St.flat_one n) (by rw [hZ5]; rfl)
    obtain ⟨PF, hPF⟩ : ∃ PF, PF = p.flat := ⟨_, rfl⟩
    have HPF := hide hPF
    have HFL := hide (show wc.heap[gf]? = some (.cells PF 120 (0, 0)) by rw [hPF]; exact I4.fl)
    have IPF := hide (show (Tryz.prog.info? 120).map (·.size) = some PF.size by rw [hPF]; exact infoFlat)
    clear hX I4 hn hnok hNF hZ5 hPF
    go_upto_region 12 with (first
      | (refine load_whole (ty := 120) rfl (unhide HFL) Tryz.underlying120 rfl (unhide IPF) ?_)
      | (go_at_call 45; rw [unhide HXX, unhide HPF]; refine (rfollow_any x p _ ((unhide HI4).sts (unhide HSX)) (unhide HWX) (unhide HP)).mono ?_; rintro e w5 ⟨rfl, hb5⟩; rw [← unhide HNN, ← unhide HNF, ← unhide HXX, ← unhide HPF]; have HI5 := hide ((unhide HI4).call hb5); clear hb5))
    have E5 : InDe w g gl d p gf gx x w5.heap.size n (w5.alloc (.cells NF 128)) := ⟨(unhide HI5).call ((Below.refl _ _).alloc (Nat.le_refl _) _), by rw [← unhide HNF]; exact heap_alloc_new w5 _⟩
    have HE5 := hide E5
    clear E5 HI5 HI4 HFL IPF gs5 zv5 y1 y2 d0 d1 d2
    generalize w5.alloc (.cells NF 128) = w6 at HE5 ⊢
    generalize w5.heap.size = gs at HE5 ⊢
    obtain ⟨kd, hkd⟩ : ∃ kd, kd = docKind x n d.keep d.refresh := ⟨_, rfl⟩
    have hkd3 : kd ≤ 3 := by rw [hkd]; exact docKind_le _ _ _ _
    have HKD := hide hkd
    clear hkd
    go_cut [12] (fun v wx => v = .int .i64 (kd : Nat) ∧ InDe w g gl d p gf gx x gs n wx)
    case first =>
      go_region_held3 (fun w' => RcIn w' gx 0 ∧ rcOf w' gx 0 = X ∧ w'.cell? ⟨g, 0, none⟩ = some (.int .i64 d.cids) ∧ w'.cell? ⟨g, 1, none⟩ = some (.int .i64 d.keep) ∧ w'.cell? ⟨g, 2, none⟩ = some (.int .i64 d.refresh) ∧ w'.cell? ⟨gs, 0, none⟩ = some (.int .i64 n.seq) ∧ w'.cell? ⟨gs, 1, none⟩ = some (.int .i64 n.stride) ∧ w'.cell? ⟨gs, 2, none⟩ = some (.int .i64 n.offset) ∧ w'.cell? ⟨gs, 3, none⟩ = some (.int .i64 n.lag) ∧ w'.cell? ⟨gs, 4, none⟩ = some (.int .i64 n.flags) ∧ InDe w g gl d p gf gx x gs n w')
        ((first
          | (exact (unhide HE5).drew.out (unhide HXX))
          | (exact (InDe.call (unhide HE5).drew hbel).out (unhide HXX))))
        ((go_at_call 46; rw [unhide HXX]; refine (rkind_any x.cells x.sv x.sts n d.cids d.keep d.refresh x.whole x.full x.age _ rfl rfl rfl rfl rfl ((unhide HE5).drew.all.sts (unhide HSX)) hk1 hk4 hr100 hr2 (unhide HWX).whole (unhide HWX).full (by have := (unhide HWX).age; omega) (unhide HNO) (unhide HWX).sts).mono ?_; rintro e w7 ⟨rfl, hbel⟩))
      all_goals go_split_ands
      all_goals (have HE8 := hide ‹InDe w g gl d p gf gx x gs n _›)
      all_goals go_wp2_with fail
      all_goals go_meet
      all_goals (case rel => exact ⟨by rw [unhide HKD]; rfl, unhide HE8⟩)
    case rest =>
      obtain ⟨rfl, E9⟩ := hcut
      clear HE5
      have HE9 := hide E9
      have y9 : wc.cell? ⟨gx, 9, none⟩ = some (.int .i64 (x.age : Int)) := block_cell E9.all.cx 9
      have f9 := block_free E9.all.cx 9
      have ag : x.age + 1 < 4611686018427387904 := (unhide HWX).age
      have wh : x.whole ≤ 4 := (unhide HWX).whole
      have fu : x.full ≤ 4 := (unhide HWX).full
      obtain ⟨xa, hxa⟩ : ∃ xa : Rc, xa = { x with age := x.age + 1 } := ⟨_, rfl⟩
      have EA := hide (E9.cell 9 (.int .i64 ((x.age + 1 : Nat) : Int)) (x' := xa) (by rw [hxa]; rfl))
      rw [Int.natCast_add] at EA
      have Hxa := hide hxa
      clear E9 hxa
      go_upto_if 67 with fail
      clear y9 f9
      generalize wc.setCell ⟨gx, 9, none⟩ (.int .i64 ((x.age : Int) + 1)) = w9 at EA ⊢
      obtain ⟨xb, hxb⟩ : ∃ xb : Rc, xb = if kd = 3 then { xa with age := 0, whole := xa.whole - 1 } else xa := ⟨_, rfl⟩
      have Hxb := hide hxb
      clear hxb
      go_cut [12] (fun v wx => v = .int .i64 (kd : Nat) ∧ InDe w g gl d p gf gx xb gs n wx)
      case first =>
        by_cases hk3 : kd = 3
        · subst hk3
          have exb : xb = { xa with age := 0, whole := xa.whole - 1 } := by rw [unhide Hxb, if_pos rfl]
          have ewh : xa.whole = x.whole := by rw [unhide Hxa]
          obtain ⟨xc, hxc⟩ : ∃ xc : Rc, xc = { xa with age := 0 } := ⟨_, rfl⟩
          have E1 := (unhide EA).cell 9 (.int .i64 0) (x' := xc) (by rw [hxc]; rfl)
          have E2 := hide (E1.cell 7 (.int .i64 ((x.whole - 1 : Nat) : Int)) (x' := xb) (by rw [hxc, exb, ewh]; rfl))
          have y9 : ∃ a : Int, w9.cell? ⟨gx, 9, none⟩ = some (.int .i64 a) := ⟨_, block_cell (unhide EA).all.cx 9⟩
          obtain ⟨a9, y9⟩ := y9
          have f9 := block_free (unhide EA).all.cx 9
          have y7 : (w9.setCell ⟨gx, 9, none⟩ (.int .i64 0)).cell? ⟨gx, 7, none⟩ = some (.int .i64 (x.whole : Int)) := by rw [← ewh]; have := block_cell E1.all.cx 7; rw [hxc] at this; exact this
          have f7 := block_free E1.all.cx 7
          have hWh := hide ewh
          clear E1 hxc exb ewh
          go_wp2_with (go_at_call 47; refine (down_any x.whole _ wh).mono ?_; rintro e w10 ⟨rfl, hw10⟩; have hw10 := hw10.symm; subst hw10)
          go_meet
          case rel => exact ⟨rfl, unhide E2⟩
        · have exb : xb = xa := by rw [unhide Hxb, if_neg hk3]
          have E2 : Hid (InDe w g gl d p gf gx xb gs n w9) := by rw [exb]; exact EA
          have k3 : ¬ ((kd : Int) = 3) := by omega
          clear exb hk3
          go_wp2_with fail
          go_meet
          case rel => exact ⟨rfl, unhide E2⟩
      case rest =>
        obtain ⟨rfl, EB⟩ := hcut
        have HEB := hide EB
        clear EB EA HE9
        go_upto_if 74 with fail
        obtain ⟨xd, hxd⟩ : ∃ xd : Rc, xd = if kd = 2 then { xb with full := xb.full - 1 } else xb := ⟨_, rfl⟩
        have Hxd := hide hxd
        have efu : xb.full = x.full := by rw [unhide Hxb]; split <;> rw [unhide Hxa]
        have Hfu := hide efu
        clear hxd efu
        go_cut [12] (fun v wx => v = .int .i64 (kd : Nat) ∧ InDe w g gl d p gf gx xd gs n wx)
        case first =>
          by_cases hk2 : kd = 2
          · subst hk2
            have exd : xd = { xb with full := xb.full - 1 } := by rw [unhide Hxd, if_pos rfl]
            have E2 := hide ((unhide HEB).cell 8 (.int .i64 ((x.full - 1 : Nat) : Int)) (x' := xd) (by rw [exd, unhide Hfu]; rfl))
            have y8 : wc.cell? ⟨gx, 8, none⟩ = some (.int .i64 (x.full : Int)) := by rw [← unhide Hfu]; exact block_cell (unhide HEB).all.cx 8
            have f8 := block_free (unhide HEB).all.cx 8
            clear exd
            go_wp2_with (go_at_call 47; refine (down_any x.full _ fu).mono ?_; rintro e w10 ⟨rfl, hw10⟩; have hw10 := hw10.symm; subst hw10)
            go_meet
            case rel => exact ⟨rfl, unhide E2⟩
          · have exd : xd = xb := by rw [unhide Hxd, if_neg hk2]
            have E2 : Hid (InDe w g gl d p gf gx xd gs n wc) := by rw [exd]; exact HEB
            have k2 : ¬ ((kd : Int) = 2) := by omega
            clear exd hk2
            go_wp2_with fail
            go_meet
            case rel => exact ⟨rfl, unhide E2⟩
        case rest =>
          obtain ⟨rfl, ED⟩ := hcut
          clear HEB
          have HED := hide ED
          clear ED
          obtain ⟨XD, hXD⟩ : ∃ XD, XD = xd.cells := ⟨_, rfl⟩
          have HXD := hide hXD
          have esv : xd.sv = x.sv ∧ xd.sts = x.sts := by
            rw [unhide Hxd]
            split <;> (rw [unhide Hxb]; split <;> (rw [unhide Hxa]; exact ⟨rfl, rfl⟩))
          have hsd : StsAt w xd.sv xd.sts := by rw [esv.1, esv.2]; exact unhide HSX
          have HSD := hide hsd
          have Hsv := hide esv
          clear hXD esv hsd
          obtain ⟨L, hL⟩ : ∃ L, L = x.sts.drop (x.sts.length - d.keep) := ⟨_, rfl⟩
          have hL4 : L.length ≤ 4 := by rw [hL, List.length_drop]; omega
          have HLL := hide hL
          clear hL
          go_upto_region 20 with fail
          go_cut [14] (fun v wx => StsAt wx v L ∧ InDe w g gl d p gf gx xd gs n wx)
          case first =>
            go_region_held3 (fun w' => RcIn w' gx 0 ∧ rcOf w' gx 0 = XD ∧ w'.cell? ⟨g, 0, none⟩ = some (.int .i64 d.cids) ∧ w'.cell? ⟨g, 1, none⟩ = some (.int .i64 d.keep) ∧ w'.cell? ⟨g, 2, none⟩ = some (.int .i64 d.refresh) ∧ w'.cell? ⟨gs, 0, none⟩ = some (.int .i64 n.seq) ∧ w'.cell? ⟨gs, 1, none⟩ = some (.int .i64 n.stride) ∧ w'.cell? ⟨gs, 2, none⟩ = some (.int .i64 n.offset) ∧ w'.cell? ⟨gs, 3, none⟩ = some (.int .i64 n.lag) ∧ w'.cell? ⟨gs, 4, none⟩ = some (.int .i64 n.flags) ∧ InDe w g gl d p gf gx xd gs n w')
              ((first
                | (exact (unhide HED).drew.out (unhide HXD))
                | (exact (InDe.call (unhide HED).drew hbel).out (unhide HXD))))
              ((go_at_call 48; rw [unhide HXD]; refine (rkept_any xd.cells xd.sv xd.sts d.keep _ rfl ((unhide HED).drew.all.sts (unhide HSD)) hk1 hk4).mono ?_; rintro e w7 ⟨v7, rfl, hv7, hbel⟩; have HV7 := hide (hv7.keep hbel); clear hv7))
            all_goals go_split_ands
            all_goals (have HE8 := hide ‹InDe w g gl d p gf gx xd gs n _›)
            all_goals go_wp2_with fail
            all_goals go_meet
            all_goals (case rel => exact ⟨by rw [unhide HLL, ← (unhide Hsv).2]; exact unhide HV7, unhide HE8⟩)
          case rest =>
            rename_i vL
            obtain ⟨hvL, E20⟩ := hcut
            obtain ⟨aoL, capL, rfl⟩ := hvL.form
            have HVL := hide hvL
            have HE20 := hide E20
            have hzc : w.heap.size ≤ wc.heap.size := E20.all.below.size
            have tx := unhide HP
            have hpt : p.time < 4294967296 := tx.time
            clear hvL E20 HED tx
            obtain ⟨j0, kj, kz0, kz1, kz2⟩ := info_parts infoSts
            go_wp2_with fail
            go_loopw [13, 15] (fun lv jv wr => ∃ j : Nat, j ≤ L.length ∧ jv = .int .i64 j ∧ wr.ownsRow wc.heap.size 128 5 lv j (scells (L.take j)) ∧ Below wc.heap.size wc wr) (fun _ jv _ => L.length - (intOf jv).toNat)
            case atStart => exact ⟨0, by omega, rfl, World.ownsRow_nil _ _ _ _, Below.refl _ _⟩
            case round =>
              rename_i lv jv wr
              obtain ⟨j, hj, rfl, hown, hbel⟩ := hrel
              have hzr : wc.heap.size ≤ wr.heap.size := hbel.size
              by_cases hlt : j < L.length
              · obtain ⟨q, o, hao, hrg⟩ : ∃ q o, aoL = some ⟨q, o, none⟩ ∧ ∀ i (h : i < L.length), wc.rangeAt q (o + i * 5) (L[i]).flat.toList := by
                  rcases unhide HVL with ⟨h1, h2⟩ | ⟨q, o, cap, h1, _, _, h4⟩
                  · rw [h1] at hlt; simp at hlt
                  · simp at h1
                    exact ⟨q, o, h1.1, h4⟩
                subst hao
                obtain ⟨r, hr⟩ : ∃ r, r = L[j] := ⟨_, rfl⟩
                have rg := hrg j hlt
                rw [← hr] at rg
                have s0 : wr.cell? ⟨q, o + j * 5, none⟩ = some (.int .i64 (r.seq : Int)) := keep_cell (rg 0 _ rfl) hbel
                have s1 : wr.cell? ⟨q, o + j * 5 + 1, none⟩ = some (.int .i64 (r.stride : Int)) := keep_cell (rg 1 _ rfl) hbel
                have s2 : wr.cell? ⟨q, o + j * 5 + 2, none⟩ = some (.int .i64 (r.offset : Int)) := keep_cell (rg 2 _ rfl) hbel
                have s3 : wr.cell? ⟨q, o + j * 5 + 3, none⟩ = some (.int .i64 (r.lag : Int)) := keep_cell (rg 3 _ rfl) hbel
                have s4 : wr.cell? ⟨q, o + j * 5 + 4, none⟩ = some (.int .i64 (r.flags : Int)) := keep_cell (rg 4 _ rfl) hbel
                have hst : scells (L.take (j + 1)) = scells (L.take j) ++ r.flat.toList := by
                  rw [hr, List.take_succ_eq_append_getElem hlt, scells_snoc]
                have HST2 := hide hst
                have HB := hide hbel
                have i0' : (0 : Int) ≤ (j : Int) := by omega
                have i1' : (j : Int) < (L.length : Int) := by omega
                have hcl7 : j + 1 ≤ maxLen := by unfold maxLen; omega
                have hcl8 : (j + 1) * 40 ≤ 140737488355328 := by omega
                have hcl9 : ∀ O : Obj, wc.heap.size ≤ (wr.alloc O).heap.size := fun O => by simp; omega
                clear hst hbel rg hrg hr
                go_wp2_with (at_builtin; refine wpList_append_own _ rfl _ _ 124 rfl wc.heap.size 128 j0 _ 5 40 Tryz.underlying124 kj kz0 kz1 kz2 rfl (by decide) _ _ _ rfl (hown.alloc _) ⟨wr.heap.size, 0, none⟩ 1 1 r.flat.toList rfl rfl ?c1 ?c2 ?c3 ?c4 ?c5 ?_)
                case c1 =>
                  intro i u hu
                  rw [Addr.add_mid, Nat.zero_add, block_cell (heap_alloc_new wr _)]
                  simpa [St.flat] using hu
                case c2 => exact fun u hu => Array.all_eq_true_iff_forall_mem.1 (St.flat_one r) u (by simpa using hu)
                case c3 => exact hcl7
                case c4 => exact hcl8
                case c5 => exact hcl9 _
                intro v' w21 hown3 hgrow3 _
                have R2 : Below wc.heap.size wc w21 := ((unhide HB).alloc hzr _).grown hgrow3 (by simp; omega) (fun k hk => (hown.lt k hk).1)
                have H1 := hide hown3
                have H2 := hide R2
                clear hown hown3 hgrow3 HB R2 s0 s1 s2 s3 s4
                go_wp2
                go_roundw
                case rel => exact ⟨j + 1, by omega, by go_num, by rw [unhide HST2]; exact unhide H1, unhide H2⟩
                case measure => simp [intOf]; omega
              · have e : j = L.length := by omega
                subst e
                rw [List.take_length] at hown
                have E21 := (unhide HE20).call hbel
                have HE21 := hide E21
                have HB20 := hide hbel
                have HOW := hide hown
                have s0 : wr.cell? ⟨gs, 0, none⟩ = some (.int .i64 (n.seq : Int)) := block_cell E21.st 0
                have s1 : wr.cell? ⟨gs, 1, none⟩ = some (.int .i64 (n.stride : Int)) := block_cell E21.st 1
                have s2 : wr.cell? ⟨gs, 2, none⟩ = some (.int .i64 (n.offset : Int)) := block_cell E21.st 2
                have s3 : wr.cell? ⟨gs, 3, none⟩ = some (.int .i64 (n.lag : Int)) := block_cell E21.st 3
                have s4 : wr.cell? ⟨gs, 4, none⟩ = some (.int .i64 (n.flags : Int)) := block_cell E21.st 4
                have hcl7 : L.length + 1 ≤ maxLen := by unfold maxLen; omega
                have hcl8 : (L.length + 1) * 40 ≤ 140737488355328 := by omega
                have hcl9 : ∀ O : Obj, wc.heap.size ≤ (wr.alloc O).heap.size := fun O => by simp; omega
                clear E21 hbel HST
                go_wp2_with (at_builtin; refine wpList_append_own _ rfl _ _ 124 rfl wc.heap.size 128 j0 _ 5 40 Tryz.underlying124 kj kz0 kz1 kz2 rfl (by decide) _ _ _ rfl ((unhide HOW).alloc _) ⟨wr.heap.size, 0, none⟩ 1 1 n.flat.toList rfl rfl ?c1 ?c2 ?c3 ?c4 ?c5 ?_)
                case c1 => exact last_c1 wr n
                case c2 => exact last_c2 n
                case c3 => exact hcl7
                case c4 => exact hcl8
                case c5 => exact hcl9 _
                intro v' w21 hown3 hgrow3 _
                obtain ⟨ao5, cap5, rfl⟩ := own_sl hown3
                have G21 := docLast (unhide HE20) (unhide HB20) (unhide HOW) hzc hown3 hgrow3
                have y5 : ∃ v5, w21.cell? ⟨gx, 5, none⟩ = some v5 := ⟨_, block_cell G21.cx 5⟩
                obtain ⟨v5, y5⟩ := y5
                have f5 := block_free G21.cx 5
                have HG21 := hide G21
                clear hown3 hgrow3 G21
                go_upto_region 26 with fail
                obtain ⟨v', hv'⟩ : ∃ v' : Value, v' = .slice ao5 (L.length + 1) cap5 := ⟨_, rfl⟩
                have hsl' : ∃ a l c, v' = .slice a l c := ⟨_, _, _, hv'⟩
                rw [← hv'] at HG21 ⊢
                have xdo : xd.sent = x.sent ∧ xd.turn = x.turn := by
                  rw [unhide Hxd]
                  split <;> (rw [unhide Hxb]; split <;> (rw [unhide Hxa]; exact ⟨rfl, rfl⟩))
                obtain ⟨e1, he1⟩ : ∃ e1 : Rc, e1 = { xd with sv := v', sts := L ++ [n] } := ⟨_, rfl⟩
                have G1 := (unhide HG21).cell 5 v' (x' := e1) (by rw [he1]; rfl)
                have He1 := hide he1
                have Hv' := hide hv'
                clear y5 f5 HG21 s0 s1 s2 s3 s4 hcl7 hcl8 hcl9 he1 hv' HOW HE21 HB20 HVL HE20
                generalize w21.setCell ⟨gx, 5, none⟩ v' = w22 at G1 ⊢
                have t4 : w22.cell? ⟨gf, 4, none⟩ = some (.int .i64 (p.time : Int)) := block_cell G1.fl 4
                have y6 : ∃ v5, w22.cell? ⟨gx, 6, none⟩ = some v5 := ⟨_, block_cell G1.cx 6⟩
                obtain ⟨v6, y6⟩ := y6
                have f6 := block_free G1.cx 6
                have HG1 := hide G1
                clear G1
                go_upto_region 27 with fail
                obtain ⟨e2, he2⟩ : ∃ e2 : Rc, e2 = { e1 with time := p.time } := ⟨_, rfl⟩
                have G2 := (unhide HG1).cell 6 (.int .i64 (p.time : Int)) (x' := e2) (by rw [he2]; rfl)
                have He2 := hide he2
                clear t4 y6 f6 he2 HG1
                generalize w22.setCell ⟨gx, 6, none⟩ (.int .i64 (p.time : Int)) = w23 at G2 ⊢
                have sn : x.sent + 1 < 4611686018427387904 := by have := (unhide HWX).sent; omega
                have y11 : w23.cell? ⟨gx, 11, none⟩ = some (.int .i64 (x.sent : Int)) := by
                  have := block_cell G2.cx 11
                  rw [unhide He2, unhide He1] at this
                  rw [← xdo.1]
                  exact this
                have f11 := block_free G2.cx 11
                have HG2 := hide G2
                have Hxdo := hide xdo
                clear G2 xdo
                go_upto_region 28 with fail
                obtain ⟨e3, he3⟩ : ∃ e3 : Rc, e3 = { e2 with sent := x.sent + 1 } := ⟨_, rfl⟩
                have G3 := (unhide HG2).cell 11 (.int .i64 ((x.sent + 1 : Nat) : Int)) (x' := e3) (by rw [he3]; rfl)
                rw [Int.natCast_add] at G3
                have He3 := hide he3
                clear y11 f11 he3 HG2
                generalize w23.setCell ⟨gx, 11, none⟩ (.int .i64 ((x.sent : Int) + 1)) = w24 at G3 ⊢
                have d4 : w24.cell? ⟨g, 4, none⟩ = some (.int .i64 (d.sent : Int)) := block_cell G3.doc.head 4
                have fd4 := block_free G3.doc.head 4
                have HG3 := hide G3
                clear G3
                go_upto_region 29 with fail
                have G4 := (unhide HG3).sent (d.sent + 1)
                rw [Int.natCast_add] at G4
                clear d4 fd4 HG3
                generalize w24.setCell ⟨g, 4, none⟩ (.int .i64 ((d.sent : Int) + 1)) = w25 at G4 ⊢
                have d4 : w25.cell? ⟨g, 4, none⟩ = some (.int .i64 ((d.sent : Int) + 1)) := by have := block_cell G4.doc.head 4; rw [show ((((({ d with sent := d.sent + 1 } : Doc).sent) : Nat)) : Int) = (d.sent : Int) + 1 from Int.natCast_add _ _] at this; exact this
                have y10 : ∃ v5, w25.cell? ⟨gx, 10, none⟩ = some v5 := ⟨_, block_cell G4.cx 10⟩
                obtain ⟨v10, y10⟩ := y10
                have f10 := block_free G4.cx 10
                have HG4 := hide G4
                clear G4
                go_upto_region 30 with fail
                obtain ⟨e4, he4⟩ : ∃ e4 : Rc, e4 = { e3 with last := d.sent + 1 } := ⟨_, rfl⟩
                have G5 := (unhide HG4).cell 10 (.int .i64 ((d.sent + 1 : Nat) : Int)) (x' := e4) (by rw [he4]; rfl)
                rw [Int.natCast_add] at G5
                have he4' : e4 = docSent x v' kd n p d.keep (d.sent + 1) := by
                  rw [he4, unhide He3, unhide He2, unhide He1, unhide Hxd, unhide Hxb, unhide Hxa, unhide HLL]
                  unfold docSent
                  by_cases k3 : kd = 3
                  · have k2 : ¬ kd = 2 := by omega
                    simp only [if_pos k3, if_neg k2]
                  · by_cases k2 : kd = 2
                    · simp only [if_neg k3, if_pos k2]
                    · simp only [if_neg k3, if_neg k2]
                have He4 := hide he4'
                have et4 : e4.turn = x.turn := by rw [he4']; rfl
                have es4 : e4.sv = v' := by rw [he4']; rfl
                clear d4 y10 f10 HG4 he4 he4'
                generalize w25.setCell ⟨gx, 10, none⟩ (.int .i64 ((d.sent : Int) + 1)) = w26 at G5 ⊢
                obtain ⟨X4, hX4⟩ : ∃ X4, X4 = e4.cells := ⟨_, rfl⟩
                have r1 : RcIn w26 gx 0 := block_rcIn G5.cx
                have r2 : rcOf w26 gx 0 = X4 := by rw [hX4]; exact block_rcOf G5.cx
                have r1d : RcIn w26.drew gx 0 := r1
                have r2d : rcOf w26.drew gx 0 = X4 := r2
                have r3 : RcTo w26 gl (i * 13) := G5.doc.rcTo hid
                have r3d : RcTo w26.drew gl (i * 13) := r3
                have r4 : GoodRc X4 := by rw [hX4]; exact Rc.good_ (by rw [es4]; exact hsl')
                have d3 : w26.cell? ⟨g, 3, none⟩ = some (.slice (some ⟨gl, 0, none⟩) N0 N0) := by
                  have := block_cell G5.doc.head 3
                  rw [show ({ d with sent := d.sent + 1 } : Doc).cs.length = N0 from (unhide HN0).symm] at this
                  exact this
                have d3d : w26.drew.cell? ⟨g, 3, none⟩ = some (.slice (some ⟨gl, 0, none⟩) N0 N0) := d3
                have HG5 := hide G5
                have HX4 := hide hX4
                clear G5 hX4
                go_cut [12] (fun v wx => v = .int .i64 (kd : Nat) ∧ InDg w g gl (({ d with sent := d.sent + 1 } : Doc).set i e4) p gf gx e4 gs n v' (L ++ [n]) wx)
                case first =>
                  go_region
                  all_goals
                    have HG6 := hide ((unhide HG5).drew.stored i hid (by rw [es4]; exact hsl'))
                    rw [← unhide HX4] at HG6
                    go_wp2_with fail
                    go_meet
                    case rel => exact ⟨rfl, unhide HG6⟩
                case rest =>
                  obtain ⟨rfl, G6⟩ := hcut
                  clear HG5 r1 r2 r1d r2d r3 r3d r4 d3 d3d
                  have HG6 := hide G6
                  have z4 : wc.cell? ⟨gx, 4, none⟩ = some (.int .i64 (x.turn : Int)) := by rw [← et4]; exact block_cell G6.cx 4
                  have HS6 := hide (show wc.heap[gs]? = some (.cells NF 128 (0, 0)) by rw [unhide HNF]; exact G6.st)
                  have HF6 := hide (show wc.heap[gf]? = some (.cells PF 120 (0, 0)) by rw [unhide HPF]; exact G6.fl)
                  have IPF := hide (show (Tryz.prog.info? 120).map (·.size) = some PF.size by rw [unhide HPF]; exact infoFlat)
                  have INF := hide (show (Tryz.prog.info? 128).map (·.size) = some NF.size by rw [unhide HNF]; exact infoRs)
                  have hi8 : i < 8 := by omega
                  have tn4 : x.turn < 4 := (unhide HWX).turn
                  clear G6
                  go_wp2_with (first
                    | (refine load_whole (ty := 120) rfl (unhide HF6) Tryz.underlying120 rfl (unhide IPF) ?_)
                    | (refine load_whole (ty := 128) rfl (unhide HS6) Tryz.underlying128 rfl (unhide INF) ?_)
                    | (go_at_call 49; rw [unhide HNF, unhide HPF]; refine (rsays_any kd x.turn i p n _ hkd3 (unhide HP) (unhide HNO) hi8 tn4 hb).mono ?_; rintro e w30 ⟨rfl, hb30⟩; have HG7 := hide ((unhide HG6).call hb30); clear hb30))
                  go_ret2
                  exact docSent_end (unhide HPL) (unhide H) (unhide HSTS) hB (unhide HG7) (unhide He4) (unhide Hx) (unhide HNN) (unhide HKD) hk4 hL4 (unhide HLL)

end Go.Proofs.YtgpojbgjfibblabGreat.texts
