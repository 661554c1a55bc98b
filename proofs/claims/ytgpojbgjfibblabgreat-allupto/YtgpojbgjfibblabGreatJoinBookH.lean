/-
  The book of lists (package gistlaw): the walk of owns, for lists of flows. Lists of flows (package gistlaw): the walks of sameFlows and looks.
  Conditions stand in each theorem.
-/
import Derived.Test.YtgpojbgjfibblabGreatPart23
import Derived.Test.YtgpojbgjfibblabGreatJoinBookLooks
namespace Go.Proofs.YtgpojbgjfibblabGreat.texts
open Go.RowKit
set_option linter.unusedVariables false

def FShorts (K : List (Value × Int)) : Prop := ∀ e ∈ K, ∃ ao n cap, e.1 = .slice ao n cap ∧ n ≤ 1000000
theorem FShorts.add {K : List (Value × Int)} {v : Value} {m : Int} (h : FShorts K) (hv : ∃ ao n cap, v = .slice ao n cap ∧ n ≤ 1000000) : FShorts (K ++ [(v, m)]) := by
  intro e he
  rcases List.mem_append.1 he with h1 | h1
  · exact h e h1
  · simp at h1; subst h1; exact hv

/-- one flow of the list is written -/
theorem fill_row {cur : Array Value} {cap n k : Nat} {m : Int} {xs : List Value} (hs : cur.size = cap * 7) (hn : n ≤ cap) (hk : k < n) (hx : xs.length = n * 7) (ht : cur.toList.take (n * 7) = marks k m ++ xs.drop (k * 7)) :
    (putRow cur (k * 7) (markRow m)).toList.take (n * 7) = marks (k + 1) m ++ xs.drop ((k + 1) * 7) := by
  have hl : (markRow m).length = 7 := rfl
  have l1 := marks_len k m
  have l2 := marks_len (k + 1) m
  apply List.ext_getElem?
  intro q
  by_cases hq : q < n * 7
  · rw [List.getElem?_take, if_pos hq, Array.getElem?_toList, putRow_get _ _ _ _ (by rw [hl]; omega), hl]
    have hc : cur[q]? = (marks k m ++ xs.drop (k * 7))[q]? := by rw [← ht, List.getElem?_take, if_pos hq, Array.getElem?_toList]
    by_cases h1 : k * 7 ≤ q ∧ q < k * 7 + 7
    · rw [if_pos h1, List.getElem?_append_left (by omega)]
      have := marks_get (k + 1) m k (q - k * 7) (by omega) (by omega)
      rw [show k * 7 + (q - k * 7) = q by omega] at this
      rw [this]
    · rw [if_neg h1, hc]
      by_cases h2 : q < k * 7
      · rw [List.getElem?_append_left (by omega), List.getElem?_append_left (by omega)]
        have e1 := marks_get k m (q / 7) (q % 7) (by omega) (by omega)
        have e2 := marks_get (k + 1) m (q / 7) (q % 7) (by omega) (by omega)
        rw [show q / 7 * 7 + q % 7 = q by omega] at e1 e2
        rw [e1, e2]
      · rw [List.getElem?_append_right (by omega), List.getElem?_append_right (by omega), l1, l2, List.getElem?_drop, List.getElem?_drop]
        congr 1
        omega
  · rw [List.getElem?_eq_none (by rw [List.length_take]; omega), List.getElem?_eq_none (by rw [List.length_append, List.length_drop]; omega)]

/-- a flow is stored, kept whole -/
def storeFl (v u : Value) : Sem Unit := Instr.storeAt 69 v u
theorem storeFl_eq (v u : Value) : Instr.storeAt 69 v u = storeFl v u := rfl
def FlTo (w : World) (g o : Nat) : Prop := ∃ c t, w.heap[g]? = some (.cells c t (0, 0)) ∧ o + 7 ≤ c.size
def GoodFl (C : Array Value) : Prop := C.size = 7 ∧ C.all (·.oneCell') = true
theorem infoFl7 : (Tryz.prog.info? 69).map (·.size) = some 7 := by kernel_rfl
theorem run_storeFl (w : World) (g o : Nat) (C : Array Value) (h : FlTo w g o) (hC : GoodFl C) : (storeFl (.pointer (some ⟨g, o, none⟩)) (.agg C)).run Tryz.prog w = .ok () (w.setRow g (putRow (rowOf w g) o C.toList)) := by
  obtain ⟨c, t, h1, h2⟩ := h
  have e : rowOf w g = c := by unfold rowOf; rw [h1]
  have := run_storeAt_mid (P := Tryz.prog) w g o 69 C (there_block h1 o _ (by rw [hC.1]; exact h2)) (by rw [infoFl7, hC.1]) hC.2
  rw [setCells_eq _ w c o h1] at this
  rw [e]
  exact this
theorem run_storeFl_new (w : World) (C Z : Array Value) (t : TypeId) (hC : GoodFl C) (hZ : Z.size = 7) : (storeFl (.pointer (some ⟨w.heap.size, 0, none⟩)) (.agg C)).run Tryz.prog (w.alloc (.cells Z t)) = .ok () (w.alloc (.cells C t)) := by
  have h1 := run_storeVar_row (P := Tryz.prog) (w.alloc (.cells Z t)) w.heap.size t 69 Z C (heap_alloc_new w _) (by rw [infoFl7, hC.1]) (by rw [hC.1, hZ]) hC.2
  rw [setRow_alloc_new'] at h1
  simp only [storeFl, Instr.storeAt, Instr.sureAddr, Sem.run_bind, Sem.run_pure, Result.andThen_ok, h1]
theorem goodFl_mark (m : Int) : GoodFl #[.int .u8 0, .int .u8 0, .int .u32 0, .int .u32 0, .int .u16 0, .int .u16 0, .int .i64 m] := ⟨rfl, Array.all_eq_true_iff_forall_mem.2 (fun v hv => markRow_one m v (by simpa [markRow] using hv))⟩

/-- a list of the caller's that is written full, while the book takes it in -/
structure HoldF (B : Nat) (w : World) (gB : Nat) (vF vM vT vN : Value) (next : Int) (K : List (Value × Int)) (l : Value) (n c : Nat) (m : Int) (gx : Nat) : Prop where
  book : BkAt B w gB vF vM vT vN next K
  own : w.ownsRow B 69 7 l n (marks n m)
  same : ∀ e ∈ K, ∀ g, l.ownBlock = some g → e.1.ownBlock = some g → e.2 = m ∧ ∃ n' cap', e.1 = .slice (some ⟨g, 0, none⟩) n' cap' ∧ n' ≤ c
  mkb : w.heap[gx]? = some (.cells #[.int .u8 0, .int .u8 0, .int .u32 0, .int .u32 0, .int .u16 0, .int .u16 0, .int .i64 m] 69 (0, 0))
  mx : l.ownBlock ≠ some gx
theorem HoldF.out {B : Nat} {w : World} {gB : Nat} {vF vM vT vN : Value} {next : Int} {K : List (Value × Int)} {l : Value} {n c : Nat} {m : Int} {gx : Nat} (h : HoldF B w gB vF vM vT vN next K l n c m gx) :
    w.cell? ⟨gx, 0, none⟩ = some (.int .u8 0) ∧ w.cell? ⟨gx, 1, none⟩ = some (.int .u8 0) ∧ w.cell? ⟨gx, 2, none⟩ = some (.int .u32 0) ∧ w.cell? ⟨gx, 3, none⟩ = some (.int .u32 0) ∧ w.cell? ⟨gx, 4, none⟩ = some (.int .u16 0) ∧ w.cell? ⟨gx, 5, none⟩ = some (.int .u16 0) ∧ w.cell? ⟨gx, 6, none⟩ = some (.int .i64 m) :=
  ⟨block_cell h.mkb 0, block_cell h.mkb 1, block_cell h.mkb 2, block_cell h.mkb 3, block_cell h.mkb 4, block_cell h.mkb 5, block_cell h.mkb 6⟩
theorem HoldF.more {B : Nat} {w : World} {gB : Nat} {vF vM vT vN : Value} {next : Int} {K : List (Value × Int)} {l : Value} {n c c' : Nat} {m : Int} {gx : Nat} (h : HoldF B w gB vF vM vT vN next K l n c m gx) (hc : c ≤ c') : HoldF B w gB vF vM vT vN next K l n c' m gx :=
  ⟨h.book, h.own, fun e he g a b => by obtain ⟨e1, n', cap', e2, e3⟩ := h.same e he g a b; exact ⟨e1, n', cap', e2, by omega⟩, h.mkb, h.mx⟩

/-- what is owned and all m may be kept -/
theorem kept_flows {w : World} {B : Nat} {v : Value} {n : Nat} {m : Int} (h : w.ownsRow B 69 7 v n (marks n m)) : FlowsOk w v m := by
  rcases h.2 with ⟨rfl, rfl⟩ | ⟨g, cap, cur, rfl, hb, hg, _, _, _, r⟩
  · exact Or.inl rfl
  · exact Or.inr ⟨g, n, cap, cur, rfl, hg, r⟩
theorem own_short {w : World} {B : Nat} {g n k cap : Nat} {m : Int} (h : w.ownsRow B 69 7 (.slice (some ⟨g, 0, none⟩) k cap) k (marks k m)) (hn : n ≤ k) : w.ownsRow B 69 7 (.slice (some ⟨g, 0, none⟩) n cap) n (marks n m) := by
  rcases h.2 with ⟨h0, _⟩ | ⟨g', cap', cur, hv, hb, hh, hnc, hcm, hcs, htake⟩
  · simp at h0
  · simp only [Value.slice.injEq, Option.some.injEq, Addr.mk.injEq, and_true, true_and] at hv
    obtain ⟨rfl, rfl⟩ := hv
    refine ⟨marks_len n m, Or.inr ⟨g, cap, cur, rfl, hb, hh, by omega, hcm, hcs, ?_⟩⟩
    have := congrArg (List.take (n * 7)) htake
    rw [List.take_take, Nat.min_eq_left (by omega), marks_take n k m hn] at this
    exact this

/-- the append finds room: the same block -/
theorem holdF_fits {B : Nat} {w w1 : World} {gB g : Nat} {vF vM vT vN : Value} {next : Int} {K : List (Value × Int)} {n k c cap : Nat} {m : Int} {gx : Nat} {o : Obj}
    (h : HoldF B w gB vF vM vT vN next K (.slice (some ⟨g, 0, none⟩) n cap) n c m gx) (hc : c ≤ n + k)
    (ho : w1.ownsRow B 69 7 (.slice (some ⟨g, 0, none⟩) (n + k) cap) (n + k) (marks n m ++ marks k m)) (hg : (w.alloc o).grownBy w1 (some g)) :
    HoldF B w1 gB vF vM vT vN next K (.slice (some ⟨g, 0, none⟩) n cap) n (n + k) m gx ∧ FlowsOk w1 (.slice (some ⟨g, 0, none⟩) (n + k) cap) m := by
  rw [marks_add] at ho
  have hz : w.heap.size ≤ w1.heap.size := by have := hg.size; simp at this; omega
  obtain ⟨cg, hcg⟩ := own_ty h.own (g := g) rfl
  have st : ∀ q, q < w.heap.size → q ≠ g → w1.heap[q]? = w.heap[q]? := fun q hq hne => by rw [hg.block q (by simp; omega) (by simpa using hne), Below.heap_alloc _ _ _ hq]
  have ob : OnlyT [69] w w1 := ((OnlyT.refl _ w).alloc o).trans (OnlyT.grown (h.own.alloc o) hg (by simp))
  have fin := own_short ho (Nat.le_add_right n k)
  refine ⟨⟨⟨ob.keep h.book.blk (by decide), ob.own h.book.oF (by decide), ob.own h.book.oM (by decide), h.book.low, fun e he => ?_⟩, fin, fun e he g' h1 h2 => ?_, ?_, h.mx⟩, kept_flows ho⟩
  · have hk := h.book.kept e he
    by_cases hb : e.1.ownBlock = some g
    · obtain ⟨e2, n', cap', ev, hn'⟩ := h.same e he g rfl hb
      rw [ev, e2]
      rcases ho.2 with ⟨h0, _⟩ | ⟨g', cap2, cur, hv, hb', hh, hnc, hcm, hcs, htake⟩
      · simp at h0
      · simp only [Value.slice.injEq, Option.some.injEq, Addr.mk.injEq, and_true, true_and] at hv
        obtain ⟨rfl, rfl⟩ := hv
        refine Or.inr ⟨g, n', cap', cur, rfl, hh, ?_⟩
        have := congrArg (List.take (n' * 7)) htake
        rw [List.take_take, Nat.min_eq_left (by omega), marks_take n' (n + k) m (by omega)] at this
        exact this
    · exact hk.keep (fun g' hg' => by
        obtain ⟨cur, hc'⟩ := hk.ty hg'
        exact st g' (block_lt hc') (fun e' => hb (by rw [hg', e'])))
  · obtain ⟨e2, n', cap', ev, hn'⟩ := h.same e he g' h1 h2
    exact ⟨e2, n', cap', ev, by omega⟩
  · rw [st gx (block_lt h.mkb) (fun e => h.mx (by rw [e]; rfl))]
    exact h.mkb
/-- the append makes a new block -/
theorem holdF_grows {B : Nat} {w w1 : World} {gB : Nat} {vF vM vT vN l v' : Value} {next : Int} {K : List (Value × Int)} {n k c : Nat} {m : Int} {gx : Nat} {o : Obj}
    (h : HoldF B w gB vF vM vT vN next K l n c m gx) (ho : w1.ownsRow (w.alloc o).heap.size 69 7 v' (n + k) (marks n m ++ marks k m)) (hg : (w.alloc o).grownBy w1 none) :
    HoldF B w1 gB vF vM vT vN next K l n c m gx ∧ FlowsOk w1 v' m ∧ (∀ g, l.ownBlock = some g → v'.ownBlock ≠ some g) := by
  rw [marks_add] at ho
  have hbel : Below w.heap.size w w1 := ((Below.refl _ _).alloc (Nat.le_refl _) o).grown hg (by simp) (fun k hk => by cases hk)
  refine ⟨⟨h.book.grew hbel, own_same h.own (fun g hg' => by obtain ⟨cur, hc⟩ := own_ty h.own hg'; exact hbel.block g (block_lt hc)), h.same, block_keep h.mkb hbel, h.mx⟩, kept_flows ho, fun g e1 e2 => ?_⟩
  have h1 := (ho.lt g e2).1
  obtain ⟨cur, hc⟩ := own_ty h.own e1
  have := block_lt hc
  simp at h1
  omega

/-- the book has taken a list in -/
theorem holdF_keep {B : Nat} {w w1 : World} {gB : Nat} {vF vM vT vN vF' vM' l v : Value} {next : Int} {K : List (Value × Int)} {n c : Nat} {m : Int} {gx : Nat}
    (h : HoldF B w gB vF vM vT vN next K l n c m gx) (hb : BkAt B w1 gB vF' vM' vT vN next (K ++ [(v, m)])) (hs : OnlyT keepsT w w1)
    (hv : ∀ g, l.ownBlock = some g → v.ownBlock = some g → ∃ n' cap', v = .slice (some ⟨g, 0, none⟩) n' cap' ∧ n' ≤ c) : HoldF B w1 gB vF' vM' vT vN next (K ++ [(v, m)]) l n c m gx := by
  refine ⟨hb, hs.own h.own (by decide), fun e he g h1 h2 => ?_, hs.keep h.mkb (by decide), h.mx⟩
  rcases List.mem_append.1 he with h3 | h3
  · exact h.same e h3 g h1 h2
  · simp at h3; subst h3
    obtain ⟨n', cap', e1, e2⟩ := hv g h1 h2
    exact ⟨rfl, n', cap', e1, e2⟩

/-- what owns does: the book's own blocks and the list itself turn -/
def ownsT : List TypeId := [33, 70, 3, 69]
structure OwnsStep (l : Value) (w w' : World) : Prop where
  onlyT : OnlyT ownsT w w'
  flow : ∀ (k : Nat) (cs : Array Value) (fr : Nat × Nat), w.heap[k]? = some (.cells cs 69 fr) → l.ownBlock ≠ some k → w'.heap[k]? = w.heap[k]?
theorem OwnsStep.trans {l : Value} {a b c : World} (h : OwnsStep l a b) (k : OwnsStep l b c) : OwnsStep l a c :=
  ⟨h.onlyT.trans k.onlyT, fun q cs fr hq hl => by rw [k.flow q cs fr (by rw [h.flow q cs fr hq hl]; exact hq) hl, h.flow q cs fr hq hl]⟩
theorem OwnsStep.of_T {ts : List TypeId} {l : Value} {w w' : World} (h : OnlyT ts w w') (hs : ∀ t, t ∈ ts → t ∈ ownsT) (hn : 69 ∉ ts) : OwnsStep l w w' :=
  ⟨h.mono hs, fun q cs fr hq _ => h.block q cs _ fr hq hn⟩
theorem OwnsStep.below {l : Value} {w w' : World} (h : Below w.heap.size w w') : OwnsStep l w w' := OwnsStep.of_T (OnlyT.of_below (ts := []) h) (by simp) (by simp)
theorem OwnsStep.row {l : Value} {w : World} {g : Nat} {cs : Array Value} {fr : Nat × Nat} (hg : w.heap[g]? = some (.cells cs 69 fr)) (hl : l.ownBlock = some g) (C : Array Value) : OwnsStep l w (w.setRow g C) :=
  ⟨OnlyT.row hg (by simp [ownsT]) C, fun q _ _ _ hn => setRow_other _ _ _ _ (fun e => hn (by rw [hl, e]))⟩
/-- an append of k marks to the list: wherever it lies then -/
theorem append_holdF {B : Nat} {w0 : World} {gB : Nat} {vF vM vT vN l : Value} {next : Int} {K : List (Value × Int)} {n c k : Nat} {m : Int} {gx : Nat} (hH : HoldF B w0 gB vF vM vT vN next K l n c m gx) (hc : c ≤ n + k) (hk : 0 < k) (hnk : n + k ≤ 1000000)
    {ops : Array Oper} {rest : List Oper} {o : Oper} {a : Act} {Q : Exit → Act → World → Prop} (hgd : o.guard = none) (s y : Operand)
    (ho : o.op = Op.call { callee := Callee.builtin Builtin.append, args := #[s, y], argTypes := #[70, 70] }) (hs : a.eval s = l) (cells : Array Value) (hcs : cells.toList = marks k m) (hy : a.eval y = .slice (some ⟨w0.heap.size, 0, none⟩) k k)
    (h : ∀ v' w', HoldF B w' gB vF vM vT vN next K l n (n + k) m gx → FlowsOk w' v' m → (∀ g, l.ownBlock = some g → v'.ownBlock = some g → ∃ n' cap', v' = .slice (some ⟨g, 0, none⟩) n' cap' ∧ n' ≤ n + k) → (v'.ownBlock = l.ownBlock ∨ ∀ g, v'.ownBlock = some g → w0.heap.size ≤ g) → OwnsStep l w0 w' → Below B w0 w' → (∃ ao cap, v' = .slice ao (n + k) cap) → wpList Tryz.prog ops Q rest (a.put o.dst v') w') :
    wpList Tryz.prog ops Q (o :: rest) a (w0.alloc (.cells cells 69)) := by
  obtain ⟨i1, ki, kz0, kz1, kz2⟩ := info_parts infoFl
  have hB0 : B ≤ w0.heap.size := by have := block_lt hH.book.blk; have := hH.book.low; omega
  have hb0 : Below B w0 (w0.alloc (.cells cells 69)) := (Below.refl _ _).alloc hB0 _
  have ob0 : OwnsStep l w0 (w0.alloc (.cells cells 69)) := OwnsStep.below ((Below.refl _ _).alloc (Nat.le_refl _) _)
  have hnews : ∀ j u, (marks k m)[j]? = some u → (w0.alloc (.cells cells 69)).cell? ((⟨w0.heap.size, 0, none⟩ : Addr).add j) = some u := by
    intro j u hj
    rw [show ((⟨w0.heap.size, 0, none⟩ : Addr).add j) = ⟨w0.heap.size, j, none⟩ by simp [Addr.add]; omega, block_cell (heap_alloc_new w0 _) j, ← hj, ← hcs]
    simp
  have hlen : (marks k m).length = k * 7 := marks_len k m
  have honec : ∀ u ∈ marks k m, u.oneCell' = true := marks_one k m
  have grows : ∀ ao cap, l = .slice ao n cap → (ao = none → n = 0 ∧ cap = 0) → cap < n + k → (∀ b, ao = some b → ∀ j u, (marks n m)[j]? = some u → (w0.alloc (.cells cells 69)).cell? (b.add j) = some u) →
      wpList Tryz.prog ops Q (o :: rest) a (w0.alloc (.cells cells 69)) := by
    intro ao cap hl hnone hfull hold
    refine wpList_append_grows (P := Tryz.prog) _ hgd s y 70 ho 69 i1 _ 7 32 Tryz.underlying70 ki kz0 kz1 kz2 rfl (by decide) ao n cap (marks n m) (hs.trans hl) hnone (marks_len n m) hold ⟨w0.heap.size, 0, none⟩ k k (marks k m) hy hlen hnews honec hfull (by unfold maxLen; omega) (by omega) ?_
    intro v' w' ho' hg'
    obtain ⟨r1, r2, r4⟩ := holdF_grows hH ho' hg'
    exact h v' w' (r1.more hc) r2 (fun g e1 e2 => absurd e2 (r4 g e1)) (Or.inr (fun g e => by have := (ho'.lt g e).1; simp at this; omega)) (ob0.trans (OwnsStep.below ((Below.refl _ _).grown hg' (Nat.le_refl _) (fun q hq => by cases hq)))) (hb0.grown hg' (by simp; omega) (fun q hq => by cases hq)) (own_sl ho')
  rcases hH.own.2 with ⟨hl, hn0⟩ | ⟨g, cap, cur, hl, hb, hg, hnc, r⟩
  · subst hn0
    exact grows none 0 hl (fun _ => ⟨rfl, rfl⟩) (by omega) (fun b hb => by cases hb)
  · by_cases hfit : n + k ≤ cap
    · subst hl
      refine wpList_append_fits (P := Tryz.prog) _ hgd s y 70 ho B 69 i1 7 Tryz.underlying70 ki kz1 g n cap (marks n m) hs (hH.own.alloc _) ⟨w0.heap.size, 0, none⟩ k k (marks k m) hy hlen hnews honec hfit ?_
      intro w' ho' hg'
      obtain ⟨r1, r2⟩ := holdF_fits hH hc ho' hg'
      exact h _ w' r1 r2 (fun g' e1 e2 => by simp [Value.ownBlock] at e1; subst e1; exact ⟨n + k, cap, rfl, Nat.le_refl _⟩) (Or.inl rfl) (ob0.trans ⟨(OnlyT.grown (hH.own.alloc _) hg' (by simp [ownsT])), fun q cs fr hq hn => hg'.block q (block_lt hq) (fun e => hn e.symm)⟩) (hb0.grown hg' (by simp; omega) (fun q hq => by simp at hq; subst hq; exact hb)) ⟨_, _, rfl⟩
    · refine grows (some ⟨g, 0, none⟩) cap hl (fun e => by cases e) (by omega) (fun b hb' j u hj => ?_)
      simp at hb'
      subst hb'
      have hjn : j < n * 7 := by have := (List.getElem?_eq_some_iff.1 hj).1; rw [marks_len] at this; exact this
      subst hl
      rw [show ((⟨g, 0, none⟩ : Addr).add j) = ⟨g, j, none⟩ by simp [Addr.add]; omega, (hH.own.alloc _).cellAt j (by omega)]
      exact hj

/-- where a list lies that the book holds behind owns -/
def News (K : List (Value × Int)) (l : Value) (z : Nat) (e : Value × Int) : Prop := e ∈ K ∨ e.1.ownBlock = l.ownBlock ∨ ∀ g, e.1.ownBlock = some g → z ≤ g
theorem news_add {K K1 : List (Value × Int)} {l v : Value} {z : Nat} {m : Int} (h : ∀ e ∈ K1, News K l z e) (hv : v.ownBlock = l.ownBlock ∨ ∀ g, v.ownBlock = some g → z ≤ g) : ∀ e ∈ K1 ++ [(v, m)], News K l z e := by
  intro e he
  rcases List.mem_append.1 he with h1 | h1
  · exact h e h1
  · simp at h1; subst h1; exact Or.inr hv
theorem news_up {v l : Value} {a b : Nat} (h : v.ownBlock = l.ownBlock ∨ ∀ g, v.ownBlock = some g → b ≤ g) (hab : a ≤ b) : v.ownBlock = l.ownBlock ∨ ∀ g, v.ownBlock = some g → a ≤ g := by
  rcases h with h | h
  · exact Or.inl h
  · exact Or.inr (fun g e => Nat.le_trans hab (h g e))
attribute [local go_sem ↓] storeFl_eq
attribute [local go_sem] run_storeFl run_storeFl_new goodFl_mark

set_option maxRecDepth 100000 in
set_option maxHeartbeats 4000000 in
theorem fowns_any (B : Nat) (w : World) (gB : Nat) (vF vM vT vN : Value) (next : Int) (K : List (Value × Int)) (l : Value) (n : Nat) (xs : List Value) (hK : BkAt B w gB vF vM vT vN next K) (hlen : K.length ≤ 536870912) (h0 : -536870912 ≤ next) (h1 : next ≤ 536870912)
    (hl : w.ownsRow B 69 7 l n xs) (hn : n ≤ 8) (hkl : ∀ e ∈ K, ∀ g, l.ownBlock = some g → e.1.ownBlock ≠ some g) :
    Calls Tryz.prog 30 #[.pointer (some ⟨gB, 0, none⟩), l] w fun e w' => e = .returned (.tuple #[]) ∧ ∃ vF' vM' K', BkAt B w' gB vF' vM' vT vN (next - 1) K' ∧ K'.length = K.length + 4 ∧ (FShorts K → FShorts K') ∧ (∀ e ∈ K', News K l w.heap.size e) ∧ Below B w w' ∧ OwnsStep l w w' := by
  obtain ⟨ao, cap, rfl⟩ := own_sl hl
  have HK := hide hK
  have HL := hide hl
  have HKL := hide hkl
  have hlow := hK.low
  have hxs := hide hl.1
  have hBw : B ≤ w.heap.size := by have := block_lt hK.blk; omega
  clear hK hl hkl
  go_enter Tryz.func30, Tryz.ntmps30
  go_wp2_with fail
  refine (fmark_any B w gB vF vM vT vN next K (unhide HK) (by omega) (by omega)).mono ?_
  rintro e w1 ⟨rfl, hw1⟩
  obtain ⟨k1, o1⟩ := fmark_book (unhide HK) (next - 1)
  rw [← hw1] at k1 o1
  have l1 := o1.own (unhide HL) (by decide)
  have b1 : Below B w w1 := by rw [hw1]; exact (Below.refl B w).setCell hlow _
  have B1 := hide b1
  have K1 := hide k1
  have L1 := hide l1
  have O1 := hide (OwnsStep.of_T o1 (by simp [ownsT]) (by decide) : OwnsStep (.slice ao n cap) w w1)
  have hz1 : w.heap.size ≤ w1.heap.size := o1.size
  clear hw1 k1 l1 b1 o1 HK HL
  obtain ⟨m, hm⟩ : ∃ m, m = next - 1 := ⟨_, rfl⟩
  rw [← hm] at K1 ⊢
  have Hm := hide hm
  clear hm
  go_wp2_with fail
  obtain ⟨gx, hgx⟩ : ∃ gx, gx = w1.heap.size := ⟨_, rfl⟩
  have MK := heap_alloc_new w1 (.cells #[.int .u8 0, .int .u8 0, .int .u32 0, .int .u32 0, .int .u16 0, .int .u16 0, .int .i64 m] 69)
  have hbx : Below w1.heap.size w1 (w1.alloc (.cells #[.int .u8 0, .int .u8 0, .int .u32 0, .int .u32 0, .int .u16 0, .int .u16 0, .int .i64 m] 69)) := (Below.refl _ _).alloc (Nat.le_refl _) _
  have K2 := hide ((unhide K1).grew hbx)
  have L2 := hide (own_same (unhide L1) (fun g hg => by obtain ⟨cur, hc⟩ := own_ty (unhide L1) hg; exact hbx.block g (block_lt hc)))
  have B2 := hide (Below.trans (unhide B1) (hbx.mono (by omega)))
  have O2 := hide ((unhide O1).trans (OwnsStep.below hbx))
  have MX : ∀ g, (Value.slice ao n cap).ownBlock = some g → g ≠ gx := fun g hg e => by obtain ⟨cur, hc⟩ := own_ty (unhide L1) hg; have := block_lt hc; omega
  have HMX := hide MX
  rw [← hgx] at MK ⊢
  have HMK := hide MK
  have HGX := hide hgx
  clear MX MK hbx hgx K1 L1 B1 O1
  generalize w1.alloc (.cells #[.int .u8 0, .int .u8 0, .int .u32 0, .int .u32 0, .int .u16 0, .int .u16 0, .int .i64 m] 69) = w2 at *
  go_loopw [6] (fun i wr => ∃ k : Nat, k ≤ n ∧ i = .int .i64 k ∧ wr.ownsRow B 69 7 (.slice ao n cap) n (marks k m ++ xs.drop (k * 7)) ∧ BkAt B wr gB vF vM vT vN m K ∧ wr.heap[gx]? = some (.cells #[.int .u8 0, .int .u8 0, .int .u32 0, .int .u32 0, .int .u16 0, .int .u16 0, .int .i64 m] 69 (0, 0)) ∧ Below B w wr ∧ OwnsStep (.slice ao n cap) w wr) (fun i _ => n - (intOf i).toNat)
  case atStart => exact ⟨0, by omega, rfl, by simpa [marks] using unhide L2, unhide K2, unhide HMK, unhide B2, unhide O2⟩
  case round =>
    obtain ⟨k, hk, rfl, hown, hbook, hmk, hbel, honly⟩ := hrel
    clear K2 L2 B2 HMK O2
    by_cases hlt : k < n
    · obtain ⟨g, cur, hao, hgB', hcur, hcap, hcs, htk⟩ : ∃ g cur, ao = some ⟨g, 0, none⟩ ∧ B ≤ g ∧ wr.heap[g]? = some (.cells cur 69 (0, 0)) ∧ n ≤ cap ∧ cur.size = cap * 7 ∧ cur.toList.take (n * 7) = marks k m ++ xs.drop (k * 7) := by
        rcases hown.2 with ⟨h3, h4⟩ | ⟨g, cap', cur, h3, h5, h6, h7, h8, h9, h10⟩
        · omega
        · simp at h3
          obtain ⟨e1, e2⟩ := h3
          subst e2
          exact ⟨g, cur, e1, h5, h6, h7, h9, h10⟩
      subst hao
      have hne : g ≠ gx := unhide HMX g rfl
      have a0 := block_cell hmk 0
      have a1 := block_cell hmk 1
      have a2 := block_cell hmk 2
      have a3 := block_cell hmk 3
      have a4 := block_cell hmk 4
      have a5 := block_cell hmk 5
      have a6 := block_cell hmk 6
      have i0 : (0 : Int) ≤ (k : Int) := by omega
      have i1 : (k : Int) < (n : Int) := by omega
      have gz : FlTo wr g (k * 7) := ⟨_, _, hcur, by omega⟩
      have er : rowOf wr g = cur := by unfold rowOf; rw [hcur]
      have hxl : xs.length = n * 7 := unhide hxs
      have hfill := fill_row hcs hcap hlt hxl htk
      have R1 : (wr.setRow g (putRow (rowOf wr g) (k * 7) (markRow m))).ownsRow B 69 7 (.slice (some ⟨g, 0, none⟩) n cap) n (marks (k + 1) m ++ xs.drop ((k + 1) * 7)) := by
        refine ⟨by rw [List.length_append, marks_len, List.length_drop]; omega, Or.inr ⟨g, cap, _, rfl, hgB', setRow_heap _ _ _ _ _ _ hcur, hcap, ?_, ?_, ?_⟩⟩
        · rcases hown.2 with ⟨h3, h4⟩ | ⟨g', cap', cur', h3, h5, h6, h7, h8, h9, h10⟩
          · omega
          · simp at h3
            rw [h3.2]
            exact h8
        · rw [putRow_size, er]; exact hcs
        · rw [er]; exact hfill
      have st : ∀ q, q ≠ g → (wr.setRow g (putRow (rowOf wr g) (k * 7) (markRow m))).heap[q]? = wr.heap[q]? := fun q hq => setRow_other _ _ _ _ hq
      have ob : OnlyT [69] wr (wr.setRow g (putRow (rowOf wr g) (k * 7) (markRow m))) := OnlyT.row hcur (by simp) _
      have R2 : BkAt B (wr.setRow g (putRow (rowOf wr g) (k * 7) (markRow m))) gB vF vM vT vN m K := ⟨ob.keep hbook.blk (by decide), ob.own hbook.oF (by decide), ob.own hbook.oM (by decide), hbook.low, fun e he => (hbook.kept e he).keep (fun q hq => st q (fun e' => unhide HKL e he g rfl (by rw [hq, e'])))⟩
      have R3 : (wr.setRow g (putRow (rowOf wr g) (k * 7) (markRow m))).heap[gx]? = some (.cells #[.int .u8 0, .int .u8 0, .int .u32 0, .int .u32 0, .int .u16 0, .int .u16 0, .int .i64 m] 69 (0, 0)) := by rw [st gx (fun e => hne e.symm)]; exact hmk
      have R4 : Below B w (wr.setRow g (putRow (rowOf wr g) (k * 7) (markRow m))) := below_setRow hbel hgB' _
      have R5 : OwnsStep (.slice (some ⟨g, 0, none⟩) n cap) w (wr.setRow g (putRow (rowOf wr g) (k * 7) (markRow m))) := honly.trans (OwnsStep.row hcur rfl _)
      have HR := hide (show _ ∧ _ ∧ _ ∧ _ ∧ _ from ⟨R1, R2, R3, R4, R5⟩)
      clear hown hbook hmk hbel honly R1 R2 R3 R4 R5 st ob hfill hcur hcs htk er hcap hxl
      go_wp2
      go_roundw
      case rel => exact ⟨k + 1, by omega, by go_num, (unhide HR).1, (unhide HR).2.1, (unhide HR).2.2.1, (unhide HR).2.2.2.1, (unhide HR).2.2.2.2⟩
      case measure => simp [intOf]; omega
    · have e : n = k := by omega
      subst e
      have hd : xs.drop (n * 7) = [] := List.drop_of_length_le (by have := unhide hxs; omega)
      rw [hd, List.append_nil] at hown
      have H0 : Hid (HoldF B wr gB vF vM vT vN m K (.slice ao n cap) n n m gx) := ⟨hbook, hown, fun e he g a1 a2 => absurd a2 (unhide HKL e he g a1), hmk, fun e => unhide HMX gx e rfl⟩
      have BB := hide hbel
      have OO := hide honly
      have N0 := hide (fun e he => Or.inl he : ∀ e ∈ K, News K (.slice ao n cap) w.heap.size e)
      clear hown hbook hbel honly hd hmk HMX
      go_wp2_with fail
      refine (fkeeps_any B wr gB vF vM vT vN _ K _ m (unhide H0).book (by omega) (kept_flows (unhide H0).own)).mono ?_
      rintro e w3 ⟨rfl, vF3, vM3, hb3, hs3, hbl3⟩
      have H3 := hide (holdF_keep (unhide H0) hb3 hs3 (fun g a1 a2 => by simp [Value.ownBlock] at a1; rcases (unhide H0).own.2 with ⟨h3, h4⟩ | ⟨g', cap', cur, h3, _⟩ <;> simp at h3 <;> simp_all))
      have B3 := hide ((unhide BB).trans hbl3)
      have O3 := hide ((unhide OO).trans (OwnsStep.of_T hs3 (by simp [keepsT, ownsT]) (by decide)))
      have N3 := hide (news_add (m := m) (unhide N0) (Or.inl rfl : (Value.slice ao n cap).ownBlock = (Value.slice ao n cap).ownBlock ∨ _))
      have z3 : w.heap.size ≤ w3.heap.size := (unhide O3).onlyT.size
      clear hb3 hs3 hbl3 H0 BB OO N0
      obtain ⟨a0, a1, a2, a3, a4, a5, a6⟩ := (unhide H3).out
      go_wp2_with (at_builtin; refine append_holdF (k := 1) (unhide H3) (by omega) (by omega) (by omega) rfl _ _ rfl rfl _ rfl rfl ?_; rintro v4 w4 h4 k4 p4 nw4 o4 b4 ⟨ao4, cap4, rfl⟩; have N4 := hide (news_add (m := m) (unhide N3) (news_up nw4 z3)); clear nw4; have H4 := hide h4; have KK4 := hide k4; have PP4 := hide p4; have B4 := hide (Below.trans (unhide B3) b4); have O4 := hide (OwnsStep.trans (unhide O3) o4); clear h4 k4 p4 o4 b4)
      clear H3 B3 O3 N3 a0 a1 a2 a3 a4 a5 a6
      refine (fkeeps_any B w4 gB _ _ _ _ _ _ _ m (unhide H4).book (by simp; omega) (unhide KK4)).mono ?_
      rintro e w5 ⟨rfl, vF5, vM5, hb5, hs5, hbl5⟩
      have H5 := hide (holdF_keep (unhide H4) hb5 hs5 (unhide PP4))
      have B5 := hide ((unhide B4).trans hbl5)
      have O5 := hide ((unhide O4).trans (OwnsStep.of_T hs5 (by simp [keepsT, ownsT]) (by decide)))
      have z5 : w.heap.size ≤ w5.heap.size := (unhide O5).onlyT.size
      have N5 := N4
      clear hb5 hs5 hbl5 H4 KK4 PP4 B4 O4 N4
      obtain ⟨a0, a1, a2, a3, a4, a5, a6⟩ := (unhide H5).out
      go_wp2_with (at_builtin; refine append_holdF (k := 2) (unhide H5) (by omega) (by omega) (by omega) rfl _ _ rfl rfl _ rfl rfl ?_; rintro v6 w6 h6 k6 p6 nw6 o6 b6 ⟨ao6, cap6, rfl⟩; have N6 := hide (news_add (m := m) (unhide N5) (news_up nw6 z5)); clear nw6; have H6 := hide h6; have KK6 := hide k6; have PP6 := hide p6; have B6 := hide (Below.trans (unhide B5) b6); have O6 := hide (OwnsStep.trans (unhide O5) o6); clear h6 k6 p6 o6 b6)
      clear H5 B5 O5 N5 a0 a1 a2 a3 a4 a5 a6
      refine (fkeeps_any B w6 gB _ _ _ _ _ _ _ m (unhide H6).book (by simp; omega) (unhide KK6)).mono ?_
      rintro e w7 ⟨rfl, vF7, vM7, hb7, hs7, hbl7⟩
      have H7 := hide (holdF_keep (unhide H6) hb7 hs7 (unhide PP6))
      have B7 := hide ((unhide B6).trans hbl7)
      have O7 := hide ((unhide O6).trans (OwnsStep.of_T hs7 (by simp [keepsT, ownsT]) (by decide)))
      have z7 : w.heap.size ≤ w7.heap.size := (unhide O7).onlyT.size
      have N7 := N6
      clear hb7 hs7 hbl7 H6 KK6 PP6 B6 O6 N6
      obtain ⟨a0, a1, a2, a3, a4, a5, a6⟩ := (unhide H7).out
      go_wp2_with (at_builtin; refine append_holdF (k := 3) (unhide H7) (by omega) (by omega) (by omega) rfl _ _ rfl rfl _ rfl rfl ?_; rintro v8 w8 h8 k8 p8 nw8 o8 b8 ⟨ao8, cap8, rfl⟩; have N8 := hide (news_add (m := m) (unhide N7) (news_up nw8 z7)); clear nw8; have H8 := hide h8; have KK8 := hide k8; have PP8 := hide p8; have B8 := hide (Below.trans (unhide B7) b8); have O8 := hide (OwnsStep.trans (unhide O7) o8); clear h8 k8 p8 o8 b8)
      clear H7 B7 O7 N7 a0 a1 a2 a3 a4 a5 a6
      refine (fkeeps_any B w8 gB _ _ _ _ _ _ _ m (unhide H8).book (by simp; omega) (unhide KK8)).mono ?_
      rintro e w9 ⟨rfl, vF9, vM9, hb9, hs9, hbl9⟩
      have H9 := hide hb9
      have B9 := hide ((unhide B8).trans hbl9)
      have O9 := hide ((unhide O8).trans (OwnsStep.of_T hs9 (by simp [keepsT, ownsT]) (by decide)))
      clear hb9 hs9 hbl9 H8 KK8 PP8 B8 O8
      go_wp2
      go_end0
      refine ⟨rfl, _, _, _, by rw [← unhide Hm]; exact unhide H9, by simp, fun hs => (((hs.add ⟨_, _, _, rfl, by omega⟩).add ⟨_, _, _, rfl, by omega⟩).add ⟨_, _, _, rfl, by omega⟩).add ⟨_, _, _, rfl, by omega⟩, unhide N8, unhide B9, unhide O9⟩

end Go.Proofs.YtgpojbgjfibblabGreat.texts

namespace Go.Proofs.YtgpojbgjfibblabGreat.texts
open Go.RowKit
set_option linter.unusedVariables false
attribute [local go_sem] bs_size bs_append List.length_append bs_list bs_toList bs_extract

/-- rows of flows -/
def flRow (a b c d e f g : Int) : List Value := [.int .u8 a, .int .u8 b, .int .u32 c, .int .u32 d, .int .u16 e, .int .u16 f, .int .i64 g]
def FlRows (n : Nat) (xs : List Value) : Prop := ∀ k, k < n → ∃ a b c d e f g, ∀ j, j < 7 → xs[k * 7 + j]? = (flRow a b c d e f g)[j]?
theorem FlRows.snoc {n : Nat} {xs : List Value} (h : FlRows n xs) (hl : xs.length = n * 7) (a b c d e f g : Int) : FlRows (n + 1) (xs ++ flRow a b c d e f g) := by
  intro k hk
  by_cases e1 : k < n
  · obtain ⟨a, b, c, d, e, f, g, hh⟩ := h k e1
    exact ⟨a, b, c, d, e, f, g, fun j hj => by rw [List.getElem?_append_left (by omega)]; exact hh j hj⟩
  · have e2 : k = n := by omega
    subst e2
    exact ⟨a, b, c, d, e, f, g, fun j hj => by rw [List.getElem?_append_right (by omega), hl, show k * 7 + j - k * 7 = j by omega]⟩
theorem flows_rows (m : Snd) (j : Nat) : FlRows (countK m j) (flowsK m j) ∧ (flowsK m j).length = countK m j * 7 := by
  induction j with
  | zero => exact ⟨fun k hk => by simp [countK] at hk, rfl⟩
  | succ j ih =>
    unfold flowsK countK
    by_cases h : 0 < (m.at_ j).kept
    · rw [if_pos h, if_pos h]
      exact ⟨ih.1.snoc ih.2 _ _ _ _ _ _ _, by rw [List.length_append, ih.2, show (flowV j (m.at_ j)).toList.length = 7 from rfl]; omega⟩
    · rw [if_neg h, if_neg h, List.append_nil]
      exact ih

set_option maxRecDepth 100000 in
set_option maxHeartbeats 4000000 in
theorem sameFlows_any (w : World) (va vb : Value) (n b1 b2 : Nat) (xs : List Value) (h1 : w.ownsRow b1 69 7 va n xs) (h2 : w.ownsRow b2 69 7 vb n xs) (hr : FlRows n xs) (hn : n ≤ 1000) :
    Calls Tryz.prog 29 #[va, vb] w fun e w' => e = .returned (.bool true) ∧ Below w.heap.size w w' := by
  obtain ⟨aa, ca, rfl⟩ := own_sl h1
  obtain ⟨ab, cb, rfl⟩ := own_sl h2
  have H1 := hide h1
  have H2 := hide h2
  have HR := hide hr
  clear h1 h2 hr
  go_enter Tryz.func29, Tryz.ntmps29
  go_wp2_with fail
  go_loopw [5] (fun i wr => ∃ k : Nat, k ≤ n ∧ i = .int .i64 k ∧ Below w.heap.size w wr) (fun i _ => n - (intOf i).toNat)
  case atStart => exact ⟨0, by omega, rfl, Below.refl _ _⟩
  case round =>
    obtain ⟨k, hk, rfl, hb⟩ := hrel
    by_cases hlt : k < n
    · obtain ⟨g, rfl⟩ : ∃ g, aa = some ⟨g, 0, none⟩ := by
        rcases (unhide H1).2 with ⟨h3, h4⟩ | ⟨g, cap', cur, h3, _⟩
        · omega
        · simp at h3; exact ⟨g, h3.1⟩
      obtain ⟨q, rfl⟩ : ∃ q, ab = some ⟨q, 0, none⟩ := by
        rcases (unhide H2).2 with ⟨h3, h4⟩ | ⟨g, cap', cur, h3, _⟩
        · omega
        · simp at h3; exact ⟨g, h3.1⟩
      obtain ⟨a, b, c, d, e, f, z, hrow⟩ := unhide HR k hlt
      have ca' : ∀ j, j < 7 → ∀ u, (flRow a b c d e f z)[j]? = some u → wr.cell? ⟨g, k * 7 + j, none⟩ = some u := fun j hj u hu => keep_cell (by rw [(unhide H1).cellAt (k * 7 + j) (by omega), hrow j hj, hu]) hb
      have cb' : ∀ j, j < 7 → ∀ u, (flRow a b c d e f z)[j]? = some u → wr.cell? ⟨q, k * 7 + j, none⟩ = some u := fun j hj u hu => keep_cell (by rw [(unhide H2).cellAt (k * 7 + j) (by omega), hrow j hj, hu]) hb
      have a0 := ca' 0 (by omega) _ rfl
      have a1 := ca' 1 (by omega) _ rfl
      have a2 := ca' 2 (by omega) _ rfl
      have a3 := ca' 3 (by omega) _ rfl
      have a4 := ca' 4 (by omega) _ rfl
      have a5 := ca' 5 (by omega) _ rfl
      have a6 := ca' 6 (by omega) _ rfl
      have e0 := cb' 0 (by omega) _ rfl
      have e1 := cb' 1 (by omega) _ rfl
      have e2 := cb' 2 (by omega) _ rfl
      have e3 := cb' 3 (by omega) _ rfl
      have e4 := cb' 4 (by omega) _ rfl
      have e5 := cb' 5 (by omega) _ rfl
      have e6 := cb' 6 (by omega) _ rfl
      rw [Nat.add_zero] at a0 e0
      have i0 : (0 : Int) ≤ (k : Int) := by omega
      have i1 : (k : Int) < (n : Int) := by omega
      have HB := hide hb
      clear hb ca' cb' hrow
      go_wp2_with fail
      go_quiet (fail)
      all_goals go_wp2
      all_goals go_roundw
      case rel => exact ⟨k + 1, by omega, by go_num, below_drewN (unhide HB) _⟩
      case measure => simp [intOf]; omega
    · have e : k = n := by omega
      subst e
      have HB := hide hb
      clear hb
      go_wp2_with fail
      go_ret
      exact ⟨rfl, unhide HB⟩

/-- what the book holds at a place, of its flows -/
theorem bk_at {B : Nat} {w : World} {gB : Nat} {vF vM vT vN : Value} {next : Int} {K : List (Value × Int)} (h : BkAt B w gB vF vM vT vN next K) (hS : FShorts K) {k : Nat} (hk : k < K.length) :
    ∃ gF cF gM cM ao n cap g m, vF = .slice (some ⟨gF, 0, none⟩) K.length cF ∧ vM = .slice (some ⟨gM, 0, none⟩) K.length cM ∧ n ≤ 1000000 ∧ w.cell? ⟨gF, k, none⟩ = some (.slice ao n cap) ∧ w.cell? ⟨gM, k, none⟩ = some (.int .i64 m)
      ∧ (0 < n → ao = some ⟨g, 0, none⟩) ∧ ∀ i, i < n → ∀ j u, (markRow m)[j]? = some u → w.cell? ⟨g, i * 7 + j, none⟩ = some u := by
  have hm : K[k] ∈ K := List.getElem_mem _
  obtain ⟨ao, n, cap, he, hn⟩ := hS _ hm
  have hkp := h.kept _ hm
  rcases h.oF.2 with ⟨_, h0⟩ | ⟨gF, cF, curT, rfl, _⟩
  · omega
  rcases h.oM.2 with ⟨_, h0⟩ | ⟨gM, cM, curN, rfl, _⟩
  · omega
  have ct : w.cell? ⟨gF, k, none⟩ = some (.slice ao n cap) := by
    rw [h.oF.cellAt k (by omega), List.getElem?_map, List.getElem?_eq_getElem hk]; simp [he]
  have cn : w.cell? ⟨gM, k, none⟩ = some (.int .i64 K[k].2) := by
    rw [h.oM.cellAt k (by omega), List.getElem?_map, List.getElem?_eq_getElem hk]; simp
  rcases hkp with e | ⟨g, n', cap', cur, e, hg, hc⟩
  · rw [he] at e
    simp at e
    exact ⟨gF, cF, gM, cM, ao, n, cap, 0, _, rfl, rfl, hn, ct, cn, fun h => by omega, fun i hi => by omega⟩
  · rw [he] at e
    simp at e
    obtain ⟨rfl, rfl, rfl⟩ := e
    refine ⟨gF, cF, gM, cM, _, n, cap, g, _, rfl, rfl, hn, ct, cn, fun _ => rfl, fun i hi j u hu => ?_⟩
    have hj : j < 7 := (List.getElem?_eq_some_iff.1 hu).1
    have := marks_get n K[k].2 i j hi hj
    rw [hu, ← hc, List.getElem?_take, if_pos (by omega), Array.getElem?_toList] at this
    rw [block_cell hg]
    exact this

/-- the book's lists of texts -/
structure TxAt (B : Nat) (w : World) (vT vN : Value) (K : List (Value × List UInt8)) : Prop where
  oT : w.ownsRow B 31 1 vT K.length (K.map (·.1))
  oN : w.ownsRow B 9 1 vN K.length (K.map fun e => .string (bs e.2))
  kept : ∀ e ∈ K, KeptOk w e.1 e.2
  short : Shorts K
theorem TxAt.nil (B : Nat) (w : World) : TxAt B w (.slice none 0 0) (.slice none 0 0) [] := ⟨World.ownsRow_nil _ _ _ _, World.ownsRow_nil _ _ _ _, fun e he => by simp at he, fun e he => by simp at he⟩
theorem tx_at {B : Nat} {w : World} {vT vN : Value} {K : List (Value × List UInt8)} (h : TxAt B w vT vN K) {k : Nat} (hk : k < K.length) :
    ∃ gT cT gN cN ao n cap g x, vT = .slice (some ⟨gT, 0, none⟩) K.length cT ∧ vN = .slice (some ⟨gN, 0, none⟩) K.length cN ∧ n ≤ 1000000 ∧ w.cell? ⟨gT, k, none⟩ = some (.slice ao n cap) ∧ w.cell? ⟨gN, k, none⟩ = some (.string (bs x))
      ∧ (0 < n → ao = some ⟨g, 0, none⟩) ∧ ∀ i, i < n → w.cell? ⟨g, i, none⟩ = some (.string (bs x)) := by
  have hm : K[k] ∈ K := List.getElem_mem _
  obtain ⟨ao, n, cap, he, hn⟩ := h.short _ hm
  have hkp := h.kept _ hm
  rcases h.oT.2 with ⟨_, h0⟩ | ⟨gT, cT, curT, rfl, _⟩
  · omega
  rcases h.oN.2 with ⟨_, h0⟩ | ⟨gN, cN, curN, rfl, _⟩
  · omega
  have ct : w.cell? ⟨gT, k, none⟩ = some (.slice ao n cap) := by
    rw [h.oT.cellAt k (by omega), List.getElem?_map, List.getElem?_eq_getElem hk]; simp [he]
  have cn : w.cell? ⟨gN, k, none⟩ = some (.string (bs K[k].2)) := by
    rw [h.oN.cellAt k (by omega), List.getElem?_map, List.getElem?_eq_getElem hk]; simp
  rcases hkp with e | ⟨g, n', cap', e, hg, hc⟩
  · rw [he] at e
    simp at e
    exact ⟨gT, cT, gN, cN, ao, n, cap, 0, _, rfl, rfl, hn, ct, cn, fun h => by omega, fun i hi => by omega⟩
  · rw [he] at e
    simp at e
    obtain ⟨rfl, rfl, rfl⟩ := e
    exact ⟨gT, cT, gN, cN, _, n, cap, g, _, rfl, rfl, hn, ct, cn, fun _ => rfl, hc⟩

set_option maxRecDepth 100000 in
set_option maxHeartbeats 4000000 in
theorem flooks_any (B : Nat) (w : World) (gB : Nat) (vF vM vT vN : Value) (next : Int) (K : List (Value × Int)) (KT : List (Value × List UInt8)) (hK : BkAt B w gB vF vM vT vN next K) (hS : FShorts K) (hlen : K.length ≤ 1073741824) (hT : TxAt B w vT vN KT) (hlT : KT.length ≤ 1073741824) :
    Calls Tryz.prog 8 #[.pointer (some ⟨gB, 0, none⟩)] w fun e w' => e = .returned (.bool true) ∧ Below w.heap.size w w' := by
  have c0 : w.cell? ⟨gB, 0, none⟩ = some vF := block_cell hK.blk 0
  have c1 : w.cell? ⟨gB, 1, none⟩ = some vT := block_cell hK.blk 1
  have c2 : w.cell? ⟨gB, 2, none⟩ = some vM := block_cell hK.blk 2
  have c3 : w.cell? ⟨gB, 3, none⟩ = some vN := block_cell hK.blk 3
  obtain ⟨aF, cF, rfl⟩ := own_sl hK.oF
  obtain ⟨aM, cM, rfl⟩ := own_sl hK.oM
  obtain ⟨aT, cT, rfl⟩ := own_sl hT.oT
  obtain ⟨aN, cN, rfl⟩ := own_sl hT.oN
  have HK := hide hK
  have HS := hide hS
  have HT := hide hT
  have H0 := hide c0
  have H1 := hide c1
  have H2 := hide c2
  have H3 := hide c3
  clear hK hS hT c0 c1 c2 c3
  go_enter Tryz.func8, Tryz.ntmps8
  go_wp2_with fail
  go_loopw [3] (fun i wr => ∃ k : Nat, k ≤ K.length ∧ i = .int .i64 k ∧ Below w.heap.size w wr) (fun i _ => K.length - (intOf i).toNat)
  case atStart => exact ⟨0, by omega, rfl, Below.refl _ _⟩
  case round =>
    obtain ⟨k, hk, rfl, hb⟩ := hrel
    have c0 := keep_cell (unhide H0) hb
    by_cases hlt : k < K.length
    · obtain ⟨gF, cF', gM, cM', ao, n, cap, g, m, e1, e2, hn, ct, cn, hao, hc⟩ := bk_at (unhide HK) (unhide HS) hlt
      simp only [Value.slice.injEq, true_and] at e1 e2
      obtain ⟨rfl, rfl⟩ := e1
      obtain ⟨rfl, rfl⟩ := e2
      have c2 := keep_cell (unhide H2) hb
      have cn' := keep_cell cn hb
      have HA := hide hao
      have HC := hide hc
      have CT := hide ct
      have HB := hide hb
      have k0 : (0 : Int) ≤ (k : Int) := by omega
      have k1 : (k : Int) < (K.length : Int) := by omega
      have hwz := hb.size
      clear hao hc ct cn hb
      go_wp2_with fail
      have BX := hide (grew_alloc (unhide HB) (.cells #[.int .u8 0, .int .u8 0, .int .u32 0, .int .u32 0, .int .u16 0, .int .u16 0, .int .i64 m] 69))
      have MX := hide (heap_alloc_new wr (.cells #[.int .u8 0, .int .u8 0, .int .u32 0, .int .u32 0, .int .u16 0, .int .u16 0, .int .i64 m] 69))
      clear HB c2 cn' c0
      generalize wr.alloc (.cells #[.int .u8 0, .int .u8 0, .int .u32 0, .int .u32 0, .int .u16 0, .int .u16 0, .int .i64 m] 69) = w2 at BX MX ⊢
      generalize wr.heap.size = gx at *
      go_loopw [5] (fun i wr => ∃ j : Nat, j ≤ n ∧ i = .int .i64 j ∧ Below w.heap.size w wr ∧ wr.heap[gx]? = some (.cells #[.int .u8 0, .int .u8 0, .int .u32 0, .int .u32 0, .int .u16 0, .int .u16 0, .int .i64 m] 69 (0, 0))) (fun i _ => n - (intOf i).toNat)
      case atStart => exact ⟨0, by omega, rfl, unhide BX, unhide MX⟩
      case round =>
        obtain ⟨j, hj, rfl, hb, hmx⟩ := hrel
        clear BX MX
        have c0 := keep_cell (unhide H0) hb
        have ct := keep_cell (unhide CT) hb
        have j0 : (0 : Int) ≤ (j : Int) := by omega
        by_cases hjn : j < n
        · obtain rfl := unhide HA (by omega)
          have j1 : (j : Int) < (n : Int) := by omega
          have cc := unhide HC j hjn
          have a0 := keep_cell (cc 0 _ rfl) hb
          have a1 := keep_cell (cc 1 _ rfl) hb
          have a2 := keep_cell (cc 2 _ rfl) hb
          have a3 := keep_cell (cc 3 _ rfl) hb
          have a4 := keep_cell (cc 4 _ rfl) hb
          have a5 := keep_cell (cc 5 _ rfl) hb
          have a6 := keep_cell (cc 6 _ rfl) hb
          have e0 := block_cell hmx 0
          have e1 := block_cell hmx 1
          have e2 := block_cell hmx 2
          have e3 := block_cell hmx 3
          have e4 := block_cell hmx 4
          have e5 := block_cell hmx 5
          have e6 := block_cell hmx 6
          rw [Nat.add_zero] at a0
          have HB := hide hb
          have HMX := hide hmx
          clear hb hmx cc
          go_wp2_with fail
          go_quiet (fail)
          all_goals go_wp2
          all_goals go_roundw
          case rel => exact ⟨j + 1, by omega, by go_num, below_drewN (unhide HB) _, by rw [World.heap_drewN]; exact unhide HMX⟩
          case measure => simp [intOf]; omega
        · have HB := hide hb
          clear hb hmx
          go_wp2_with fail
          go_roundw
          case rel => exact ⟨k + 1, by omega, by go_num, unhide HB⟩
          case measure => simp [intOf]; omega
    · have e : k = K.length := by omega
      subst e
      have HB := hide hb
      clear hb
      go_wp2_with fail
      go_loopw [6] (fun i wr => ∃ k : Nat, k ≤ KT.length ∧ i = .int .i64 k ∧ Below w.heap.size w wr) (fun i _ => KT.length - (intOf i).toNat)
      case atStart => exact ⟨0, by omega, rfl, unhide HB⟩
      case round =>
        clear c0 HB
        obtain ⟨k, hk, rfl, hb⟩ := hrel
        have c1 := keep_cell (unhide H1) hb
        by_cases hlt2 : k < KT.length
        · obtain ⟨gT, cT', gN, cN', ao, n, cap, g, x, e1, e2, hn, ct, cn, hao, hc⟩ := tx_at (unhide HT) hlt2
          simp only [Value.slice.injEq, true_and] at e1 e2
          obtain ⟨rfl, rfl⟩ := e1
          obtain ⟨rfl, rfl⟩ := e2
          have HA := hide hao
          have HC := hide hc
          have CT := hide ct
          have CN := hide cn
          have HB := hide hb
          clear hao hc ct cn hb
          go_wp2_with fail
          go_loopw [7] (fun i wr => ∃ j : Nat, j ≤ n ∧ i = .int .i64 j ∧ Below w.heap.size w wr) (fun i _ => n - (intOf i).toNat)
          case atStart => exact ⟨0, by omega, rfl, unhide HB⟩
          case round =>
            clear c1 HB
            obtain ⟨j, hj, rfl, hb⟩ := hrel
            have c1 := keep_cell (unhide H1) hb
            have ct := keep_cell (unhide CT) hb
            by_cases hjn : j < n
            · obtain rfl := unhide HA (by omega)
              have ck := keep_cell (unhide HC j hjn) hb
              have c3 := keep_cell (unhide H3) hb
              have cn := keep_cell (unhide CN) hb
              have HB := hide hb
              clear hb
              go_wp2_with fail
              go_quiet (fail)
              all_goals go_wp2
              all_goals go_roundw
              case rel => exact ⟨j + 1, by omega, by go_num, below_drewN (unhide HB) _⟩
              case measure => simp [intOf]; omega
            · have HB := hide hb
              clear hb
              go_wp2_with fail
              go_roundw
              case rel => exact ⟨k + 1, by omega, by go_num, unhide HB⟩
              case measure => simp [intOf]; omega
        · have e : k = KT.length := by omega
          subst e
          have HB := hide hb
          clear hb
          go_wp2_with fail
          go_ret
          exact ⟨rfl, unhide HB⟩

end Go.Proofs.YtgpojbgjfibblabGreat.texts
