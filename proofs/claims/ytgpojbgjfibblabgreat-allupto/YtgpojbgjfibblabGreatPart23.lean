/-
  A context of the document's as one piece: loads and stores; its states as a row of their own. The book of lists (package gistlaw): the lists of flows in memory; the walks of mark and keeps.
  Conditions stand in each theorem.
-/
import Derived.Test.YtgpojbgjfibblabGreatDocFlows
import Derived.Test.YtgpojbgjfibblabGreatJoinBookLooks
import Derived.Test.YtgpojbgjfibblabGreatPart20
namespace Go.Proofs.YtgpojbgjfibblabGreat.texts
open Go.RowKit
set_option linter.unusedVariables false

theorem Rc.cells_size (x : Rc) : x.cells.size = 13 := rfl
theorem Rc.cells_one {x : Rc} (h : ∃ a l c, x.sv = .slice a l c) : x.cells.all (·.oneCell') = true := by
  obtain ⟨a, l, c, h⟩ := h
  refine Array.all_eq_true_iff_forall_mem.2 (fun v hv => ?_)
  simp only [Rc.cells, List.mem_toArray, List.mem_cons, List.not_mem_nil, or_false] at hv
  rcases hv with e | e | e | e | e | e | e | e | e | e | e | e | e <;> (subst e; first | rfl | (rw [h]; rfl))

/-- a context's cells in the midst of a block, as a load takes them -/
def rcOf (w : World) (g o : Nat) : Array Value := match w.heap[g]? with | some (.cells c _ _) => ((c.toList.drop o).take 13).toArray | _ => #[]
def RcIn (w : World) (g o : Nat) : Prop := ∃ c t fr, w.heap[g]? = some (.cells c t fr) ∧ o + 13 ≤ c.size
theorem load_rcOf (w : World) (g o : Nat) (h : RcIn w g o) : (Instr.loadAt 126 (.pointer (some ⟨g, o, none⟩))).run Tryz.prog w = .ok (.agg (rcOf w g o)) w := by
  obtain ⟨c, t, fr, h1, h2⟩ := h
  have := run_loadAt_mid (P := Tryz.prog) w g o 126 _ _ (World.rangeAt_of_block h1 o 13) Tryz.underlying126 rfl (by rw [infoRc]; simp; omega)
  simpa [rcOf, h1] using this
def loadRc (v : Value) : Sem Value := Instr.loadAt 126 v
theorem loadRc_eq (v : Value) : Instr.loadAt 126 v = loadRc v := rfl
theorem run_loadRc (w : World) (g o : Nat) (h : RcIn w g o) : (loadRc (.pointer (some ⟨g, o, none⟩))).run Tryz.prog w = .ok (.agg (rcOf w g o)) w := load_rcOf w g o h
def storeRc (v u : Value) : Sem Unit := Instr.storeAt 126 v u
theorem storeRc_eq (v u : Value) : Instr.storeAt 126 v u = storeRc v u := rfl
def RcTo (w : World) (g o : Nat) : Prop := ∃ c t, w.heap[g]? = some (.cells c t (0, 0)) ∧ o + 13 ≤ c.size
def GoodRc (C : Array Value) : Prop := C.size = 13 ∧ C.all (·.oneCell') = true
theorem run_storeRc (w : World) (g o : Nat) (C : Array Value) (h : RcTo w g o) (hC : GoodRc C) : (storeRc (.pointer (some ⟨g, o, none⟩)) (.agg C)).run Tryz.prog w = .ok () (w.setRow g (putRow (rowOf w g) o C.toList)) := by
  obtain ⟨c, t, h1, h2⟩ := h
  have e : rowOf w g = c := by unfold rowOf; rw [h1]
  have := run_storeAt_mid (P := Tryz.prog) w g o 126 C (there_block h1 o _ (by rw [hC.1]; exact h2)) (by rw [infoRc, hC.1]) hC.2
  rw [setCells_eq _ w c o h1] at this
  rw [e]
  exact this
theorem run_storeRc_new (w : World) (C Z : Array Value) (t : TypeId) (hC : GoodRc C) (hZ : Z.size = 13) : (storeRc (.pointer (some ⟨w.heap.size, 0, none⟩)) (.agg C)).run Tryz.prog (w.alloc (.cells Z t)) = .ok () (w.alloc (.cells C t)) := by
  have h1 := run_storeVar_row (P := Tryz.prog) (w.alloc (.cells Z t)) w.heap.size t 126 Z C (heap_alloc_new w _) (by rw [infoRc, hC.1]) (by rw [hC.1, hZ]) hC.2
  rw [setRow_alloc_new'] at h1
  simp only [storeRc, Instr.storeAt, Instr.sureAddr, Sem.run_bind, Sem.run_pure, Result.andThen_ok, h1]
theorem Rc.good_ {x : Rc} (h : ∃ a l c, x.sv = .slice a l c) : GoodRc x.cells := ⟨rfl, Rc.cells_one h⟩
theorem put_all13 (C D : Array Value) (hC : C.size = 13) (hD : D.size = 13) : putRow C 0 D.toList = D := by
  apply Array.ext_getElem?
  intro k
  rw [putRow_get _ _ _ _ (by rw [Array.length_toList]; omega), Array.length_toList]
  by_cases hk : k < 13
  · rw [if_pos (by omega)]; simp
  · rw [if_neg (by omega), Array.getElem?_eq_none (by omega), Array.getElem?_eq_none (by omega)]
theorem block_rcIn {w : World} {g : Nat} {x : Rc} {t : TypeId} {fr : Nat × Nat} (h : w.heap[g]? = some (.cells x.cells t fr)) : RcIn w g 0 := ⟨_, _, _, h, by rw [Rc.cells_size]; omega⟩
theorem block_rcOf {w : World} {g : Nat} {x : Rc} {t : TypeId} {fr : Nat × Nat} (h : w.heap[g]? = some (.cells x.cells t fr)) : rcOf w g 0 = x.cells := by
  unfold rcOf
  rw [h]
  simp only [List.drop_zero]
  rw [List.take_of_length_le (by rw [Array.length_toList, Rc.cells_size]; omega)]

theorem Doc.row_len (d : Doc) : d.row.length = d.cs.length * 13 := by
  unfold Doc.row
  induction d.cs with
  | nil => rfl
  | cons c l ih => rw [List.flatMap_cons, List.length_append, ih, List.length_cons, Array.length_toList, Rc.cells_size]; omega
theorem Doc.row_get (d : Doc) {i j : Nat} (hi : i < d.cs.length) (hj : j < 13) : d.row[i * 13 + j]? = (d.at_ i).cells[j]? := by
  rw [Nat.mul_comm]
  exact rcflat_get d.cs i j hi hj
theorem DocAt.rcIn {w : World} {g gl : Nat} {d : Doc} (h : DocAt w g gl d) {i : Nat} (hi : i < d.cs.length) : RcIn w gl (i * 13) := ⟨_, _, _, h.rows, by rw [List.size_toArray, Doc.row_len]; omega⟩
theorem DocAt.rcTo {w : World} {g gl : Nat} {d : Doc} (h : DocAt w g gl d) {i : Nat} (hi : i < d.cs.length) : RcTo w gl (i * 13) := ⟨_, _, h.rows, by rw [List.size_toArray, Doc.row_len]; omega⟩
theorem DocAt.rcOf {w : World} {g gl : Nat} {d : Doc} (h : DocAt w g gl d) {i : Nat} (hi : i < d.cs.length) : rcOf w gl (i * 13) = (d.at_ i).cells := by
  unfold texts.rcOf
  rw [h.rows]
  simp only
  apply Array.ext_getElem?
  intro k
  rw [List.getElem?_toArray, List.getElem?_take]
  by_cases hk : k < 13
  · rw [if_pos hk, List.getElem?_drop, Doc.row_get d hi hk]
  · rw [if_neg hk, Array.getElem?_eq_none (by rw [Rc.cells_size]; omega)]
theorem Doc.putAll (d : Doc) {i : Nat} (x : Rc) (hi : i < d.cs.length) : putRow d.row.toArray (i * 13) x.cells.toList = (d.set i x).row.toArray := by
  have hl : x.cells.toList.length = 13 := rfl
  have hs : (d.set i x).cs.length = d.cs.length := by simp [Doc.set]
  have hr := Doc.row_len d
  have hr2 := Doc.row_len (d.set i x)
  apply Array.ext_getElem?
  intro k
  rw [putRow_get _ _ _ _ (by rw [hl, List.size_toArray]; omega), hl, List.getElem?_toArray, List.getElem?_toArray]
  by_cases hk : k < d.cs.length * 13
  · obtain ⟨q, j, hj, rfl⟩ : ∃ q j, j < 13 ∧ k = q * 13 + j := ⟨k / 13, k % 13, by omega, by omega⟩
    have hq : q < d.cs.length := by omega
    rw [Doc.row_get (d.set i x) (by omega) hj, Doc.row_get d hq hj, Doc.set_at d i q x hi]
    by_cases e : q = i
    · subst e
      rw [if_pos (by omega), if_pos rfl, show q * 13 + j - q * 13 = j by omega]
      simp
    · rw [if_neg (by omega), if_neg e]
  · rw [if_neg (by omega), List.getElem?_eq_none (by omega), List.getElem?_eq_none (by omega)]

/-- states one behind the other -/
def scells (l : List St) : List Value := l.flatMap (fun s => s.flat.toList)
theorem scells_length (l : List St) : (scells l).length = l.length * 5 := by
  unfold scells
  induction l with
  | nil => rfl
  | cons c l ih => rw [List.flatMap_cons, List.length_append, ih, List.length_cons, show c.flat.toList.length = 5 from rfl]; omega
theorem scells_snoc (l : List St) (s : St) : scells (l ++ [s]) = scells l ++ s.flat.toList := by simp [scells]
theorem scells_get (l : List St) : ∀ (i j : Nat) (hi : i < l.length), j < 5 → (scells l)[i * 5 + j]? = (l[i]).flat.toList[j]? := by
  unfold scells
  induction l with
  | nil => intro i j h; simp at h
  | cons c l ih =>
    intro i j h hj
    have hc : c.flat.toList.length = 5 := rfl
    rw [List.flatMap_cons]
    cases i with
    | zero => rw [List.getElem?_append_left (by omega)]; simp
    | succ i =>
      rw [List.getElem?_append_right (by omega), hc, show (i + 1) * 5 + j - 5 = i * 5 + j by omega, ih i j (by simpa using h) hj]
      simp
theorem infoSts : (Tryz.prog.info? 128).map (fun i => (i.zero, i.size, i.bytes)) = some (some (.agg #[.int .i64 0, .int .i64 0, .int .i64 0, .int .i64 0, .int .i64 0]), 5, 40) := by kernel_rfl
theorem StsAt.of_own {w : World} {B : Nat} {v : Value} {l : List St} (h : w.ownsRow B 128 5 v l.length (scells l)) (hl : l.length ≤ 1000) : StsAt w v l := by
  rcases h.2 with ⟨h1, h2⟩ | ⟨g, cap, cur, rfl, hg, hh, hn, _, _, ht⟩
  · exact Or.inl ⟨List.length_eq_zero_iff.1 h2, h1⟩
  · refine Or.inr ⟨g, 0, cap, rfl, hn, hl, fun i hi j u hu => ?_⟩
    have hj : j < 5 := (List.getElem?_eq_some_iff.1 hu).1
    have e := scells_get l i j hi hj
    rw [hu, ← ht, List.getElem?_take, if_pos (by omega)] at e
    rw [block_cell hh, Nat.zero_add, ← e]
    simp
/-- an End's states -/
def StsIn (w : World) (B : Nat) (d : Doc) : Prop := ∀ i, i < d.cs.length → w.ownsRow B 128 5 (d.at_ i).sv (d.at_ i).sts.length (scells (d.at_ i).sts) ∧ (d.at_ i).sts.length ≤ 5
/-- a context whose numbers have their widths -/
structure Rc.well (x : Rc) : Prop where
  turn : x.turn < 4
  sts : ∀ s ∈ x.sts, s.ok
  sent : x.sent + x.missed + 1 < 4611686018427387904
  whole : x.whole ≤ 4
  full : x.full ≤ 4
  age : x.age + 1 < 4611686018427387904
  time : x.time < 4294967296
  few : x.sts.length ≤ 5
  nil : x.sts = [] → x.sv = .slice none 0 0
  sl : ∃ a l c, x.sv = .slice a l c

end Go.Proofs.YtgpojbgjfibblabGreat.texts

namespace Go.Proofs.YtgpojbgjfibblabGreat.texts
open Go.RowKit
set_option linter.unusedVariables false

theorem own_ty {w : World} {base : Nat} {e : TypeId} {size : Nat} {v : Value} {n : Nat} {xs : List Value} (h : w.ownsRow base e size v n xs) {g : Nat} (hg : v.ownBlock = some g) : ∃ cur, w.heap[g]? = some (.cells cur e (0, 0)) := by
  rcases h.2 with ⟨rfl, _⟩ | ⟨g', cap, cur, rfl, _, hh, _⟩
  · simp [Value.ownBlock] at hg
  · simp [Value.ownBlock] at hg; subst hg; exact ⟨cur, hh⟩
theorem own_same {w w' : World} {base : Nat} {e : TypeId} {size : Nat} {v : Value} {n : Nat} {xs : List Value} (h : w.ownsRow base e size v n xs) (hb : ∀ g, v.ownBlock = some g → w'.heap[g]? = w.heap[g]?) : w'.ownsRow base e size v n xs := by
  refine ⟨h.1, ?_⟩
  rcases h.2 with h2 | ⟨g, cap, cur, rfl, hg, hh, r⟩
  · exact Or.inl h2
  · exact Or.inr ⟨g, cap, cur, rfl, hg, by rw [hb g rfl]; exact hh, r⟩
theorem own_sl {w : World} {base : Nat} {e : TypeId} {size : Nat} {v : Value} {n : Nat} {xs : List Value} (h : w.ownsRow base e size v n xs) : ∃ ao cap, v = .slice ao n cap := by
  rcases h.2 with ⟨rfl, rfl⟩ | ⟨g, cap, cur, rfl, _⟩
  · exact ⟨_, _, rfl⟩
  · exact ⟨_, _, rfl⟩
theorem apart_ty {w : World} {a b : Nat} {c1 c2 : Array Value} {t1 t2 : TypeId} {f1 f2 : Nat × Nat} (h1 : w.heap[a]? = some (.cells c1 t1 f1)) (h2 : w.heap[b]? = some (.cells c2 t2 f2)) (ht : t1 ≠ t2) : a ≠ b := by
  rintro rfl
  rw [h1] at h2
  simp at h2
  exact ht h2.2.1

/-- only blocks of these types have turned, or new ones -/
structure OnlyT (ts : List TypeId) (w w' : World) : Prop where
  os : w'.os = w.os
  tape : w'.tape = w.tape
  output : w'.output = w.output
  size : w.heap.size ≤ w'.heap.size
  block : ∀ (k : Nat) (cs : Array Value) (t : TypeId) (fr : Nat × Nat), w.heap[k]? = some (.cells cs t fr) → t ∉ ts → w'.heap[k]? = w.heap[k]?
theorem OnlyT.refl (ts : List TypeId) (w : World) : OnlyT ts w w := ⟨rfl, rfl, rfl, Nat.le_refl _, fun _ _ _ _ _ _ => rfl⟩
theorem OnlyT.keep {ts : List TypeId} {w w' : World} (h : OnlyT ts w w') {k : Nat} {cs : Array Value} {t : TypeId} {fr : Nat × Nat} (hk : w.heap[k]? = some (.cells cs t fr)) (ht : t ∉ ts) : w'.heap[k]? = some (.cells cs t fr) := by
  rw [h.block k cs t fr hk ht]; exact hk
theorem OnlyT.trans {ts : List TypeId} {a b c : World} (h : OnlyT ts a b) (k : OnlyT ts b c) : OnlyT ts a c :=
  ⟨k.os.trans h.os, k.tape.trans h.tape, k.output.trans h.output, Nat.le_trans h.size k.size, fun q cs t fr hq ht => by rw [k.block q cs t fr (h.keep hq ht) ht, h.block q cs t fr hq ht]⟩
theorem OnlyT.mono {ts us : List TypeId} {w w' : World} (h : OnlyT ts w w') (hs : ∀ t, t ∈ ts → t ∈ us) : OnlyT us w w' := ⟨h.os, h.tape, h.output, h.size, fun k cs t fr hk ht => h.block k cs t fr hk (fun e => ht (hs t e))⟩
theorem OnlyT.of_below {ts : List TypeId} {w w' : World} (h : Below w.heap.size w w') : OnlyT ts w w' := ⟨h.os, h.tape, h.output, h.size, fun k _ _ _ hk _ => h.block k (block_lt hk)⟩
theorem OnlyT.alloc {ts : List TypeId} {a w : World} (h : OnlyT ts a w) (o : Obj) : OnlyT ts a (w.alloc o) := h.trans (OnlyT.of_below ((Below.refl _ _).alloc (Nat.le_refl _) o))
theorem OnlyT.drew {ts : List TypeId} {a w : World} (h : OnlyT ts a w) : OnlyT ts a w.drew := ⟨h.os, h.tape, h.output, h.size, h.block⟩
theorem OnlyT.of_only {ts : List TypeId} {S : Nat → Prop} {w w' : World} (h : Only S w w') (hS : ∀ k, S k → ∃ cs t fr, w.heap[k]? = some (.cells cs t fr) ∧ t ∈ ts) : OnlyT ts w w' :=
  ⟨h.os, h.tape, h.output, h.size, fun k cs t fr hk ht => h.block k (block_lt hk) (fun e => by
    obtain ⟨cs', t', fr', h1, h2⟩ := hS k e
    rw [hk] at h1
    simp at h1
    exact ht (h1.2.1 ▸ h2))⟩
theorem OnlyT.cell {ts : List TypeId} {w : World} {p : Addr} {cs : Array Value} {t : TypeId} {fr : Nat × Nat} (hp : w.heap[p.block]? = some (.cells cs t fr)) (ht : t ∈ ts) (u : Value) : OnlyT ts w (w.setCell p u) :=
  OnlyT.of_only (S := (· = p.block)) (Only.setCell (S := (· = p.block)) (Only.refl _ _) rfl u) (fun k e => by subst e; exact ⟨_, _, _, hp, ht⟩)
theorem OnlyT.row {ts : List TypeId} {w : World} {g : Nat} {cs : Array Value} {t : TypeId} {fr : Nat × Nat} (hp : w.heap[g]? = some (.cells cs t fr)) (ht : t ∈ ts) (C : Array Value) : OnlyT ts w (w.setRow g C) :=
  OnlyT.of_only (S := (· = g)) (Only.setRow (S := (· = g)) (Only.refl _ _) rfl C) (fun k e => by subst e; exact ⟨_, _, _, hp, ht⟩)
theorem OnlyT.grown {ts : List TypeId} {w w' : World} {v : Value} {B : Nat} {e : TypeId} {size n : Nat} {xs : List Value} (hv : w.ownsRow B e size v n xs) (hg : w.grownBy w' v.ownBlock) (ht : e ∈ ts) : OnlyT ts w w' :=
  ⟨hg.os, hg.tape, hg.output, hg.size, fun k cs t fr hk hn => hg.block k (block_lt hk) (fun e' => by
    obtain ⟨cur, hc⟩ := own_ty hv e'.symm
    rw [hk] at hc
    simp at hc
    exact hn (hc.2.1 ▸ ht))⟩
theorem OnlyT.own {ts : List TypeId} {w w' : World} {B : Nat} {e : TypeId} {size n : Nat} {v : Value} {xs : List Value} (h : OnlyT ts w w') (ho : w.ownsRow B e size v n xs) (ht : e ∉ ts) : w'.ownsRow B e size v n xs :=
  own_same ho (fun g hg => by obtain ⟨cur, hc⟩ := own_ty ho hg; exact h.block g _ _ _ hc ht)

/-- a mark as a flow, and n of them -/
def markRow (m : Int) : List Value := [.int .u8 0, .int .u8 0, .int .u32 0, .int .u32 0, .int .u16 0, .int .u16 0, .int .i64 m]
def marks (n : Nat) (m : Int) : List Value := (List.replicate n (markRow m)).flatten
theorem marks_zero (m : Int) : marks 0 m = [] := rfl
theorem marks_succ (n : Nat) (m : Int) : marks (n + 1) m = markRow m ++ marks n m := by simp [marks, List.replicate_succ]
theorem marks_len (n : Nat) (m : Int) : (marks n m).length = n * 7 := by
  induction n with
  | zero => rfl
  | succ n ih => rw [marks_succ, List.length_append, ih, show (markRow m).length = 7 from rfl]; omega
theorem marks_add (n k : Nat) (m : Int) : marks n m ++ marks k m = marks (n + k) m := by
  induction n with
  | zero => simp [marks]
  | succ n ih => rw [marks_succ, List.append_assoc, ih, show n + 1 + k = n + k + 1 by omega, marks_succ]
theorem marks_take (n k : Nat) (m : Int) (h : n ≤ k) : (marks k m).take (n * 7) = marks n m := by
  obtain ⟨q, rfl⟩ : ∃ q, k = n + q := ⟨k - n, by omega⟩
  rw [← marks_add, List.take_left' (marks_len n m)]
theorem marks_get (n : Nat) (m : Int) : ∀ (i j : Nat), i < n → j < 7 → (marks n m)[i * 7 + j]? = (markRow m)[j]? := by
  induction n with
  | zero => intro i j h; omega
  | succ n ih =>
    intro i j h hj
    have hl : (markRow m).length = 7 := rfl
    rw [marks_succ]
    cases i with
    | zero => rw [List.getElem?_append_left (by omega)]; simp
    | succ i => rw [List.getElem?_append_right (by omega), hl, show (i + 1) * 7 + j - 7 = i * 7 + j by omega, ih i j (by omega) hj]
theorem markRow_one (m : Int) : ∀ u ∈ markRow m, u.oneCell' = true := by
  intro u hu
  simp only [markRow, List.mem_cons, List.not_mem_nil, or_false] at hu
  rcases hu with h | h | h | h | h | h | h <;> (subst h; rfl)
theorem marks_one (n : Nat) (m : Int) : ∀ u ∈ marks n m, u.oneCell' = true := by
  intro u hu
  unfold marks at hu
  obtain ⟨l, hl, hu⟩ := List.mem_flatten.1 hu
  obtain ⟨_, rfl⟩ := List.mem_replicate.1 hl
  exact markRow_one m u hu

/-- a list all of whose flows are the mark m -/
def FlowsOk (w : World) (v : Value) (m : Int) : Prop :=
  v = .slice none 0 0 ∨ ∃ g n cap cur, v = .slice (some ⟨g, 0, none⟩) n cap ∧ w.heap[g]? = some (.cells cur 69 (0, 0)) ∧ cur.toList.take (n * 7) = marks n m
theorem FlowsOk.keep {w w' : World} {v : Value} {m : Int} (h : FlowsOk w v m) (hb : ∀ g, v.ownBlock = some g → w'.heap[g]? = w.heap[g]?) : FlowsOk w' v m := by
  rcases h with rfl | ⟨g, n, cap, cur, rfl, h1, h2⟩
  · exact Or.inl rfl
  · exact Or.inr ⟨g, n, cap, cur, rfl, by rw [hb g rfl]; exact h1, h2⟩
theorem FlowsOk.ty {w : World} {v : Value} {m : Int} (h : FlowsOk w v m) {g : Nat} (hg : v.ownBlock = some g) : ∃ cur, w.heap[g]? = some (.cells cur 69 (0, 0)) := by
  rcases h with rfl | ⟨g', n, cap, cur, rfl, h1, _⟩
  · simp [Value.ownBlock] at hg
  · simp [Value.ownBlock] at hg; subst hg; exact ⟨_, h1⟩
theorem FlowsOk.only {ts : List TypeId} {w w' : World} {v : Value} {m : Int} (h : FlowsOk w v m) (o : OnlyT ts w w') (ht : 69 ∉ ts) : FlowsOk w' v m :=
  h.keep (fun g hg => by obtain ⟨cur, hc⟩ := h.ty hg; exact o.block g _ _ _ hc ht)
theorem FlowsOk.form {w : World} {v : Value} {m : Int} (h : FlowsOk w v m) : ∃ ao n cap, v = .slice ao n cap := by
  rcases h with rfl | ⟨g', n, cap, cur, rfl, h1, _⟩
  · exact ⟨_, _, _, rfl⟩
  · exact ⟨_, _, _, rfl⟩

/-- the book in memory: its lists of flows -/
structure BkAt (B : Nat) (w : World) (gB : Nat) (vF vM vT vN : Value) (next : Int) (K : List (Value × Int)) : Prop where
  blk : w.heap[gB]? = some (.cells #[vF, vT, vM, vN, .int .i64 next] 33 (0, 0))
  oF : w.ownsRow B 70 1 vF K.length (K.map (·.1))
  oM : w.ownsRow B 3 1 vM K.length (K.map fun e => .int .i64 e.2)
  low : B ≤ gB
  kept : ∀ e ∈ K, FlowsOk w e.1 e.2
theorem BkAt.only {ts : List TypeId} {B : Nat} {w w' : World} {gB : Nat} {vF vM vT vN : Value} {next : Int} {K : List (Value × Int)} (h : BkAt B w gB vF vM vT vN next K) (o : OnlyT ts w w')
    (h1 : 33 ∉ ts) (h2 : 70 ∉ ts) (h3 : 3 ∉ ts) (h4 : 69 ∉ ts) : BkAt B w' gB vF vM vT vN next K :=
  ⟨o.keep h.blk h1, o.own h.oF h2, o.own h.oM h3, h.low, fun e he => (h.kept e he).only o h4⟩
theorem BkAt.grew {B : Nat} {w w' : World} {gB : Nat} {vF vM vT vN : Value} {next : Int} {K : List (Value × Int)} (h : BkAt B w gB vF vM vT vN next K) (hb : Below w.heap.size w w') : BkAt B w' gB vF vM vT vN next K :=
  h.only (OnlyT.of_below (ts := []) hb) (by simp) (by simp) (by simp) (by simp)

set_option maxRecDepth 100000 in
set_option maxHeartbeats 1000000 in
theorem fmark_any (B : Nat) (w : World) (gB : Nat) (vF vM vT vN : Value) (next : Int) (K : List (Value × Int)) (hK : BkAt B w gB vF vM vT vN next K) (h0 : -1073741824 ≤ next) (h1 : next ≤ 1073741824) :
    Calls Tryz.prog 53 #[.pointer (some ⟨gB, 0, none⟩)] w fun e w' => e = .returned (.int .i64 (next - 1)) ∧ w' = w.setCell ⟨gB, 4, none⟩ (.int .i64 (next - 1)) := by
  have c1 : w.cell? ⟨gB, 4, none⟩ = some (.int .i64 next) := block_cell hK.blk 4
  have f1 : w.frozen? ⟨gB, 4, none⟩ = false := block_free hK.blk 4
  clear hK
  go_enter Tryz.func53, Tryz.ntmps53
  go_wp2
  go_ret
  exact ⟨rfl, rfl⟩
theorem fmark_book {B : Nat} {w : World} {gB : Nat} {vF vM vT vN : Value} {next : Int} {K : List (Value × Int)} (hK : BkAt B w gB vF vM vT vN next K) (m : Int) : BkAt B (w.setCell ⟨gB, 4, none⟩ (.int .i64 m)) gB vF vM vT vN m K ∧ OnlyT [33] w (w.setCell ⟨gB, 4, none⟩ (.int .i64 m)) := by
  have o : OnlyT [33] w (w.setCell ⟨gB, 4, none⟩ (.int .i64 m)) := OnlyT.cell hK.blk (by simp) _
  exact ⟨⟨block_put hK.blk 4 _, o.own hK.oF (by decide), o.own hK.oM (by decide), hK.low, fun e he => (hK.kept e he).only o (by decide)⟩, o⟩

theorem infoFS : (Tryz.prog.info? 70).map (fun i => (i.zero, i.size, i.bytes)) = some (some (.slice none 0 0), 1, 24) := by kernel_rfl
theorem infoI : (Tryz.prog.info? 3).map (fun i => (i.zero, i.size, i.bytes)) = some (some (.int .i64 0), 1, 8) := by kernel_rfl
theorem new_set (w1 : World) (a : Addr) (v u : Value) (t : TypeId) : ((w1.setCell a v).alloc (.cells #[u] t)).cell? ⟨w1.heap.size, 0, none⟩ = some u := by
  have h := block_cell (heap_alloc_new (w1.setCell a v) (.cells #[u] t)) 0
  simpa using h

/-- what keeps does: the book's own blocks alone turn -/
def keepsT : List TypeId := [33, 70, 3]

set_option maxRecDepth 100000 in
set_option maxHeartbeats 1000000 in
theorem fkeeps_any (B : Nat) (w : World) (gB : Nat) (vF vM vT vN : Value) (next : Int) (K : List (Value × Int)) (v : Value) (m : Int) (hK : BkAt B w gB vF vM vT vN next K) (hlen : K.length ≤ 1073741824) (hv : FlowsOk w v m) :
    Calls Tryz.prog 54 #[.pointer (some ⟨gB, 0, none⟩), v, .int .i64 m] w fun e w' => e = .returned (.tuple #[]) ∧ ∃ vF' vM', BkAt B w' gB vF' vM' vT vN next (K ++ [(v, m)]) ∧ OnlyT keepsT w w' ∧ Below B w w' := by
  obtain ⟨i0, hi, hz0, hz1, hz2⟩ := info_parts infoFS
  obtain ⟨i1, ki, kz0, kz1, kz2⟩ := info_parts infoI
  have HK := hide hK
  have c1 : w.cell? ⟨gB, 0, none⟩ = some vF := block_cell hK.blk 0
  have f1 : w.frozen? ⟨gB, 0, none⟩ = false := block_free hK.blk 0
  have hown := hK.oF
  have hlow := hK.low
  have hgB := block_lt hK.blk
  have hBw : B ≤ w.heap.size := by omega
  obtain ⟨ao, n, cap, rfl⟩ := hv.form
  have HV := hide hv
  clear hK hv
  go_enter Tryz.func54, Tryz.ntmps54
  go_wp2_with (at_builtin; refine wpList_append_own _ rfl _ _ 29 rfl B 70 i0 (.slice none 0 0) 1 24 Tryz.underlying29 hi hz0 hz1 hz2 rfl (by decide) _ _ _ rfl (hown.alloc _) ⟨w.heap.size, 0, none⟩ 1 1 [.slice ao n cap] rfl rfl ?c1 ?c2 ?c3 ?c4 ?c5 ?_)
  case c1 =>
    intro j u hj
    match j, hj with
    | 0, hj => simp at hj; subst hj; simp [Addr.add]
  case c2 => first | (intro u hu; simp at hu; subst hu; rfl) | rfl
  case c3 => unfold maxLen; omega
  case c4 => omega
  case c5 => first | omega | (simp; omega)
  intro vF' w1 hF1 hg1 _
  obtain ⟨aoF, capF, rfl⟩ := own_slice hF1
  have o1 : OnlyT keepsT w w1 := ((OnlyT.refl _ w).alloc _).trans (OnlyT.grown (hown.alloc _) hg1 (by simp [keepsT]))
  have p1 : OnlyT [70] w w1 := ((OnlyT.refl _ w).alloc _).trans (OnlyT.grown (hown.alloc _) hg1 (by simp))
  have q1 : Below B w w1 := ((Below.refl _ _).alloc hBw _).grown hg1 (by simp; omega) (fun k hk => (hown.lt k hk).1)
  have b1 := p1.keep (unhide HK).blk (by decide)
  have m1 := p1.own (unhide HK).oM (by decide)
  have k1 : ∀ e ∈ K, FlowsOk w1 e.1 e.2 := fun e he => ((unhide HK).kept e he).only p1 (by decide)
  have v1 := (unhide HV).only p1 (by decide)
  have d1 : w1.cell? ⟨gB, 0, none⟩ = some vF := block_cell b1 0
  have d2 : w1.frozen? ⟨gB, 0, none⟩ = false := block_free b1 0
  have b2 : (w1.setCell ⟨gB, 0, none⟩ (.slice aoF (K.length + 1) capF)).heap[gB]? = _ := block_put b1 0 _
  have d3 : (w1.setCell ⟨gB, 0, none⟩ (.slice aoF (K.length + 1) capF)).cell? ⟨gB, 2, none⟩ = some vM := block_cell b2 2
  have d4 : (w1.setCell ⟨gB, 0, none⟩ (.slice aoF (K.length + 1) capF)).frozen? ⟨gB, 2, none⟩ = false := block_free b2 2
  have p2 : OnlyT [33] w1 (w1.setCell ⟨gB, 0, none⟩ (.slice aoF (K.length + 1) capF)) := OnlyT.cell b1 (by simp) _
  have m2 := p2.own m1 (by decide)
  have F2 := hide (p2.own hF1 (by decide))
  have O2 := hide (o1.trans (p2.mono (ts := [33]) (us := keepsT) (by simp [keepsT])))
  have Q2 := hide (q1.setCell (p := ⟨gB, 0, none⟩) hlow (.slice aoF (K.length + 1) capF))
  have K2 := hide (fun e he => (k1 e he).only p2 (by decide) : ∀ e ∈ K, FlowsOk (w1.setCell ⟨gB, 0, none⟩ (.slice aoF (K.length + 1) capF)) e.1 e.2)
  have V2 := hide (v1.only p2 (by decide))
  have B2 := hide b2
  have z2 : B ≤ w1.heap.size := by have := q1.size; omega
  clear hF1 hg1 o1 p1 q1 b1 m1 k1 v1 p2 b2 hown c1 f1
  go_wp2_with (at_builtin; refine wpList_append_own _ rfl _ _ 26 rfl B 3 i1 (.int .i64 0) 1 8 Tryz.underlying26 ki kz0 kz1 kz2 rfl (by decide) _ _ _ rfl (m2.alloc _) ⟨w1.heap.size, 0, none⟩ 1 1 [.int .i64 m] rfl rfl ?e1 ?e2 ?e3 ?e4 ?e5 ?_)
  case e1 =>
    intro j u hj
    match j, hj with
    | 0, hj =>
      simp at hj
      subst hj
      exact new_set w1 _ _ _ _
  case e2 => first | (intro u hu; simp at hu; subst hu; rfl) | rfl
  case e3 => unfold maxLen; omega
  case e4 => omega
  case e5 => first | omega | (simp; omega)
  intro vM' w4 hM1 hg2 _
  obtain ⟨aoM, capM, rfl⟩ := own_slice hM1
  have o4 : OnlyT [3] (w1.setCell ⟨gB, 0, none⟩ (.slice aoF (K.length + 1) capF)) w4 := ((OnlyT.refl _ _).alloc _).trans (OnlyT.grown (m2.alloc _) hg2 (by simp))
  have q4 : Below B w w4 := ((unhide Q2).alloc (by simp; omega) _).grown hg2 (by simp; omega) (fun k hk => (m2.lt k hk).1)
  have b4 := o4.keep (unhide B2) (by decide)
  have e3 : w4.cell? ⟨gB, 2, none⟩ = some vM := block_cell b4 2
  have e4 : w4.frozen? ⟨gB, 2, none⟩ = false := block_free b4 2
  have p5 : OnlyT [33] w4 (w4.setCell ⟨gB, 2, none⟩ (.slice aoM (K.length + 1) capM)) := OnlyT.cell b4 (by simp) _
  have fin := hide (show BkAt B (w4.setCell ⟨gB, 2, none⟩ (.slice aoM (K.length + 1) capM)) gB (.slice aoF (K.length + 1) capF) (.slice aoM (K.length + 1) capM) vT vN next (K ++ [(.slice ao n cap, m)]) ∧ OnlyT keepsT w (w4.setCell ⟨gB, 2, none⟩ (.slice aoM (K.length + 1) capM)) ∧ Below B w (w4.setCell ⟨gB, 2, none⟩ (.slice aoM (K.length + 1) capM)) from by
    refine ⟨⟨block_put b4 2 _, ?_, ?_, hlow, ?_⟩, ((unhide O2).trans (o4.mono (us := keepsT) (by simp [keepsT]))).trans (p5.mono (us := keepsT) (by simp [keepsT])), q4.setCell (p := ⟨gB, 2, none⟩) hlow _⟩
    · rw [List.length_append, List.map_append]
      exact p5.own (o4.own (unhide F2) (by decide)) (by decide)
    · rw [List.length_append, List.map_append]
      exact p5.own hM1 (by decide)
    · intro e he
      rcases List.mem_append.1 he with h | h
      · exact ((unhide K2 e h).only o4 (by decide)).only p5 (by decide)
      · simp at h; subst h; exact ((unhide V2).only o4 (by decide)).only p5 (by decide))
  clear b4 hM1 hg2 d1 d2 d3 d4 o4 q4 p5 m2
  go_wp2
  go_end0
  exact ⟨rfl, _, _, (unhide fin).1, (unhide fin).2.1, (unhide fin).2.2⟩

end Go.Proofs.YtgpojbgjfibblabGreat.texts
