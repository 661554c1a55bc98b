/-
  The book of lists (package gistlaw): what it holds in memory; the walks of mark, name and keepsTexts.
  Conditions stand in each theorem.
-/
import Derived.Test.YtgpojbgjfibblaaListAids
import Derived.Test.YtgpojbgjfibblaaBackWalk
import Derived.Maps.AppendAt
namespace Go.Proofs.Ytgpojbgjfibblaa.texts
open Go.RowKit
set_option linter.unusedVariables false
attribute [local go_sem] bs_size bs_append List.length_append bs_list bs_toList bs_extract

/-- a list all of whose texts are x -/
def KeptOk (w : World) (v : Value) (x : List UInt8) : Prop :=
  v = .slice none 0 0 ∨ ∃ g n cap, v = .slice (some ⟨g, 0, none⟩) n cap ∧ g < w.heap.size ∧ ∀ i, i < n → w.cell? ⟨g, i, none⟩ = some (.string (bs x))
theorem KeptOk.lt {w : World} {v : Value} {x : List UInt8} (h : KeptOk w v x) {g : Nat} (hg : v.ownBlock = some g) : g < w.heap.size := by
  rcases h with rfl | ⟨g', n, cap, rfl, h1, _⟩
  · simp [Value.ownBlock] at hg
  · simp [Value.ownBlock] at hg; subst hg; exact h1
theorem KeptOk.form {w : World} {v : Value} {x : List UInt8} (h : KeptOk w v x) : ∃ ao n cap, v = .slice ao n cap := by
  rcases h with rfl | ⟨g', n, cap, rfl, h1, _⟩
  · exact ⟨_, _, _, rfl⟩
  · exact ⟨_, _, _, rfl⟩

/-- a list lies apart from the book's own memory -/
def ApartOf (v : Value) (gB : Nat) (vT vN : Value) : Prop := ∀ g, v.ownBlock = some g → g ≠ gB ∧ vT.ownBlock ≠ some g ∧ vN.ownBlock ≠ some g

/-- the book in memory -/
structure BookAt (B : Nat) (w : World) (gB : Nat) (vT vN : Value) (next : Int) (K : List (Value × List UInt8)) : Prop where
  blk : w.heap[gB]? = some (.cells #[.slice none 0 0, vT, .slice none 0 0, vN, .int .i64 next] 70 (0, 0))
  oT : w.ownsRow B 63 1 vT K.length (K.map (·.1))
  oN : w.ownsRow B 9 1 vN K.length (K.map fun e => .string (bs e.2))
  low : B ≤ gB
  kept : ∀ e ∈ K, KeptOk w e.1 e.2 ∧ ApartOf e.1 gB vT vN

/-- a step of the book's: what else lies in memory stays -/
structure BookStep (B : Nat) (w w' : World) (gB : Nat) (vT vN vT' vN' : Value) : Prop where
  below : Below B w w'
  frame : ∀ k, k < w.heap.size → k ≠ gB → vT.ownBlock ≠ some k → vN.ownBlock ≠ some k → w'.heap[k]? = w.heap[k]?
  tT : vT'.ownBlock = vT.ownBlock ∨ ∃ g, vT'.ownBlock = some g ∧ w.heap.size ≤ g
  tN : vN'.ownBlock = vN.ownBlock ∨ ∃ g, vN'.ownBlock = some g ∧ w.heap.size ≤ g

theorem infoSl : (Try.prog.info? 63).map (fun i => (i.zero, i.size, i.bytes)) = some (some (.slice none 0 0), 1, 24) := by kernel_rfl

theorem lt_of_cell {w : World} {a : Addr} {v : Value} (h : w.cell? a = some v) : a.block < w.heap.size := by
  by_cases h2 : a.block < w.heap.size
  · exact h2
  · simp [World.cell?, Array.getElem?_eq_none (Nat.le_of_not_lt h2)] at h

/-- a kept list stays while its block does -/
theorem KeptOk.keep {w w' : World} {v : Value} {x : List UInt8} (h : KeptOk w v x) (hz : w.heap.size ≤ w'.heap.size) (hb : ∀ g, v.ownBlock = some g → g < w.heap.size → w'.heap[g]? = w.heap[g]?) : KeptOk w' v x := by
  rcases h with rfl | ⟨g, n, cap, rfl, h1, h2⟩
  · exact Or.inl rfl
  · refine Or.inr ⟨g, n, cap, rfl, by omega, fun i hi => ?_⟩
    rw [World.cell?_of_block (w := w) (hb g rfl h1)]
    exact h2 i hi

/-- the three blocks of the book are apart -/
theorem BookAt.sep {B : Nat} {w : World} {gB : Nat} {vT vN : Value} {next : Int} {K : List (Value × List UInt8)} (h : BookAt B w gB vT vN next K) :
    vT.ownBlock ≠ some gB ∧ vN.ownBlock ≠ some gB ∧ ∀ g, vT.ownBlock = some g → vN.ownBlock ≠ some g := by
  have hT := h.oT
  have hN := h.oN
  have tT : ∀ g, vT.ownBlock = some g → ∃ cur, w.heap[g]? = some (.cells cur 63 (0, 0)) := by
    intro g hg
    rcases hT.2 with ⟨rfl, _⟩ | ⟨g', cap, cur, rfl, _, hh, _⟩
    · simp [Value.ownBlock] at hg
    · simp [Value.ownBlock] at hg; subst hg; exact ⟨cur, hh⟩
  have tN : ∀ g, vN.ownBlock = some g → ∃ cur, w.heap[g]? = some (.cells cur 9 (0, 0)) := by
    intro g hg
    rcases hN.2 with ⟨rfl, _⟩ | ⟨g', cap, cur, rfl, _, hh, _⟩
    · simp [Value.ownBlock] at hg
    · simp [Value.ownBlock] at hg; subst hg; exact ⟨cur, hh⟩
  refine ⟨fun e => ?_, fun e => ?_, fun g e1 e2 => ?_⟩
  · obtain ⟨cur, hc⟩ := tT gB e
    rw [h.blk] at hc; simp at hc
  · obtain ⟨cur, hc⟩ := tN gB e
    rw [h.blk] at hc; simp at hc
  · obtain ⟨c1, h1⟩ := tT g e1
    obtain ⟨c2, h2⟩ := tN g e2
    rw [h1] at h2; simp at h2

/-- a list that came to the book: where the grown row lies -/
theorem own_lt {w : World} {B : Nat} {e : TypeId} {v : Value} {n : Nat} {xs : List Value} (h : w.ownsRow B e 1 v n xs) {g : Nat} (hg : v.ownBlock = some g) : B ≤ g ∧ g < w.heap.size := h.lt g hg

/-- half way: the texts are grown and stored -/
theorem book_mid {B : Nat} {w w1 : World} {gB : Nat} {vT vN vT' : Value} {next : Int} {K : List (Value × List UInt8)} {o : Obj} (hK : BookAt B w gB vT vN next K) (hg : (w.alloc o).grownBy w1 vT.ownBlock) :
    w1.heap[gB]? = some (.cells #[.slice none 0 0, vT, .slice none 0 0, vN, .int .i64 next] 70 (0, 0)) ∧
    (w1.setCell ⟨gB, 1, none⟩ vT').heap[gB]? = some (.cells #[.slice none 0 0, vT', .slice none 0 0, vN, .int .i64 next] 70 (0, 0)) ∧
    (w1.setCell ⟨gB, 1, none⟩ vT').ownsRow B 9 1 vN K.length (K.map fun e => .string (bs e.2)) ∧ w.heap.size + 1 ≤ w1.heap.size := by
  obtain ⟨s1, s2, s3⟩ := hK.sep
  have hlt := block_lt hK.blk
  have b1 : w1.heap[gB]? = some (.cells #[.slice none 0 0, vT, .slice none 0 0, vN, .int .i64 next] 70 (0, 0)) := by
    rw [hg.block gB (by simp; omega) (fun e => s1 e.symm)]
    exact block_alloc hK.blk o
  refine ⟨b1, ?_, ?_, by have := hg.size; simp at this; omega⟩
  · have := block_put b1 1 vT'
    exact this
  · have h1 := (hK.oN.alloc o).kept hg (by
      cases e : vN.ownBlock with
      | none => exact Or.inl rfl
      | some g => exact Or.inr (fun e2 => s3 g e2.symm e))
    exact ownsRow_setCell_other h1 (fun e => s2 e) _

theorem book_four {B : Nat} {w w1 w4 : World} {gB : Nat} {vT vN vT' : Value} {next : Int} {K : List (Value × List UInt8)} {o1 o2 : Obj} (hK : BookAt B w gB vT vN next K) (hg1 : (w.alloc o1).grownBy w1 vT.ownBlock)
    (hg2 : ((w1.setCell ⟨gB, 1, none⟩ vT').alloc o2).grownBy w4 vN.ownBlock) : w4.heap[gB]? = some (.cells #[.slice none 0 0, vT', .slice none 0 0, vN, .int .i64 next] 70 (0, 0)) := by
  obtain ⟨s1, s2, s3⟩ := hK.sep
  have hlt := block_lt hK.blk
  obtain ⟨m1, m2, m3, m4⟩ := book_mid (vT' := vT') hK hg1
  rw [hg2.block gB (by simp; omega) (fun e => s2 e.symm)]
  exact block_alloc m2 o2
theorem new_after_set (w1 : World) (a : Addr) (v u : Value) (t : TypeId) : ((w1.setCell a v).alloc (.cells #[u] t)).cell? ⟨w1.heap.size, 0, none⟩ = some u := by
  have h := block_cell (heap_alloc_new (w1.setCell a v) (.cells #[u] t)) 0
  simpa using h

theorem book_end {B : Nat} {w w1 w4 : World} {gB : Nat} {vT vN vT' vN' v : Value} {x : List UInt8} {next : Int} {K : List (Value × List UInt8)} {o1 o2 : Obj} (hK : BookAt B w gB vT vN next K)
    (hv : KeptOk w v x) (hap : ApartOf v gB vT vN)
    (hT1 : w1.ownsRow B 63 1 vT' (K.length + 1) (K.map (·.1) ++ [v])) (hg1 : (w.alloc o1).grownBy w1 vT.ownBlock) (hat1 : vT'.ownBlock = vT.ownBlock ∨ vT'.ownBlock = some (w.heap.size + 1))
    (hN1 : w4.ownsRow B 9 1 vN' (K.length + 1) ((K.map fun e => .string (bs e.2)) ++ [.string (bs x)])) (hg2 : ((w1.setCell ⟨gB, 1, none⟩ vT').alloc o2).grownBy w4 vN.ownBlock) (hat2 : vN'.ownBlock = vN.ownBlock ∨ vN'.ownBlock = some (w1.heap.size + 1)) :
    BookAt B (w4.setCell ⟨gB, 3, none⟩ vN') gB vT' vN' next (K ++ [(v, x)]) ∧ BookStep B w (w4.setCell ⟨gB, 3, none⟩ vN') gB vT vN vT' vN' := by
  obtain ⟨s1, s2, s3⟩ := hK.sep
  have hlt := block_lt hK.blk
  obtain ⟨m1, m2, m3, m4⟩ := book_mid (vT' := vT') hK hg1
  have hsz2 : (w1.setCell ⟨gB, 1, none⟩ vT').heap.size = w1.heap.size := by simp
  have z4 : w1.heap.size + 1 ≤ w4.heap.size := by have := hg2.size; simp at this; omega
  -- blocks that neither step touches
  have fr : ∀ k, k < w.heap.size → k ≠ gB → vT.ownBlock ≠ some k → vN.ownBlock ≠ some k → (w4.setCell ⟨gB, 3, none⟩ vN').heap[k]? = w.heap[k]? := by
    intro k hk h1 h2 h3
    rw [Below.heap_setCell _ _ _ _ (by simpa using h1), hg2.block k (by simp; omega) (fun e => h3 e.symm), Below.heap_alloc _ _ _ (by rw [hsz2]; omega), Below.heap_setCell _ _ _ _ (by simpa using h1), hg1.block k (by simp; omega) (fun e => h2 e.symm), Below.heap_alloc _ _ _ hk]
  have tNlt : ∀ g, vN.ownBlock = some g → g < w.heap.size := fun g e => (own_lt hK.oN e).2
  have tTlt : ∀ g, vT.ownBlock = some g → g < w.heap.size := fun g e => (own_lt hK.oT e).2
  have aT : vT'.ownBlock ≠ some gB := by
    rcases hat1 with e | e
    · rw [e]; exact s1
    · rw [e]; simp; omega
  have aTN : ∀ g, vT'.ownBlock = some g → vN.ownBlock ≠ some g := by
    intro g e1 e2
    rcases hat1 with e | e
    · rw [e] at e1; exact s3 g e1 e2
    · rw [e] at e1; simp at e1; have := tNlt g e2; omega
  have aN : vN'.ownBlock ≠ some gB := by
    rcases hat2 with e | e
    · rw [e]; exact s2
    · rw [e]; simp; omega
  have low4 : ∀ k, k < B → w4.heap[k]? = w.heap[k]? := by
    intro k hk
    have hB := hK.low
    rw [hg2.block k (by simp; omega) (fun e => by have := (own_lt hK.oN e.symm).1; omega), Below.heap_alloc _ _ _ (by rw [hsz2]; omega), Below.heap_setCell _ _ _ _ (by simp; omega), hg1.block k (by simp; omega) (fun e => by have := (own_lt hK.oT e.symm).1; omega), Below.heap_alloc _ _ _ (by omega)]
  refine ⟨⟨?_, ?_, ?_, hK.low, ?_⟩, ⟨?_, fr, ?_, ?_⟩⟩
  · have b4 : w4.heap[gB]? = some (.cells #[.slice none 0 0, vT', .slice none 0 0, vN, .int .i64 next] 70 (0, 0)) := by
      rw [hg2.block gB (by simp; omega) (fun e => s2 e.symm)]
      exact block_alloc m2 o2
    exact block_put b4 3 vN'
  · rw [List.length_append, List.map_append]
    have h2 := ownsRow_setCell_other (a := ⟨gB, 1, none⟩) hT1 aT vT'
    have h3 := (h2.alloc o2).kept hg2 (by
      cases e : vT'.ownBlock with
      | none => exact Or.inl rfl
      | some g => exact Or.inr (fun e2 => aTN g e e2.symm))
    exact ownsRow_setCell_other (a := ⟨gB, 3, none⟩) h3 aT vN'
  · rw [List.length_append, List.map_append]
    exact ownsRow_setCell_other (a := ⟨gB, 3, none⟩) hN1 aN vN'
  · intro e he
    have both : KeptOk w e.1 e.2 ∧ ApartOf e.1 gB vT vN := by
      rcases List.mem_append.1 he with h | h
      · exact hK.kept e h
      · simp at h; subst h; exact ⟨hv, hap⟩
    obtain ⟨k1, k2⟩ := both
    refine ⟨k1.keep (by simp; omega) (fun g hg hlt => fr g hlt (k2 g hg).1 (k2 g hg).2.1 (k2 g hg).2.2), fun g hg => ⟨(k2 g hg).1, ?_, ?_⟩⟩
    · have hgl := k1.lt hg
      rcases hat1 with e | e
      · rw [e]; exact (k2 g hg).2.1
      · rw [e]; simp; omega
    · have hgl := k1.lt hg
      rcases hat2 with e | e
      · rw [e]; exact (k2 g hg).2.2
      · rw [e]; simp; omega
  · refine ⟨?_, ?_, ?_, by simp; omega, fun k hk => ?_⟩
    · show w4.os = w.os; rw [hg2.os]; exact hg1.os
    · show w4.tape = w.tape; rw [hg2.tape]; exact hg1.tape
    · show w4.output = w.output; rw [hg2.output]; exact hg1.output
    · have hB := hK.low
      rw [Below.heap_setCell _ _ _ _ (by simp; omega)]; exact low4 k hk
  · rcases hat1 with e | e
    · exact Or.inl e
    · exact Or.inr ⟨_, e, by omega⟩
  · rcases hat2 with e | e
    · exact Or.inl e
    · exact Or.inr ⟨_, e, by omega⟩

set_option maxRecDepth 100000 in
set_option maxHeartbeats 1000000 in
theorem keeps_any (B : Nat) (w : World) (gB : Nat) (vT vN : Value) (next : Int) (K : List (Value × List UInt8)) (v : Value) (x : List UInt8) (hK : BookAt B w gB vT vN next K) (hlen : K.length ≤ 1073741824)
    (hv : KeptOk w v x) (hap : ApartOf v gB vT vN) :
    Calls Try.prog 69 #[.pointer (some ⟨gB, 0, none⟩), v, .string (bs x)] w fun e w' => e = .returned (.tuple #[]) ∧ ∃ vT' vN', BookAt B w' gB vT' vN' next (K ++ [(v, x)]) ∧ BookStep B w w' gB vT vN vT' vN' := by
  obtain ⟨i0, hi, hz0, hz1, hz2⟩ := info_parts infoSl
  obtain ⟨i1, ki, kz0, kz1, kz2⟩ := info_parts infoS
  have HK := hide hK
  have c1 : w.cell? ⟨gB, 1, none⟩ = some vT := block_cell hK.blk 1
  have f1 : w.frozen? ⟨gB, 1, none⟩ = false := block_free hK.blk 1
  have hown := hK.oT
  have hlow := hK.low
  have hgB := block_lt hK.blk
  obtain ⟨ao, n, cap, rfl⟩ := hv.form
  have HV := hide hv
  have HAP := hide hap
  clear hK hv hap
  go_enter Try.func69, Try.ntmps69
  go_wp2_with (at_builtin; refine wpList_append_own_at _ rfl _ _ 67 rfl B 63 i0 (.slice none 0 0) 1 24 Try.underlying67 hi hz0 hz1 hz2 rfl (by decide) _ _ _ rfl (hown.alloc _) ⟨w.heap.size, 0, none⟩ 1 1 [.slice ao n cap] rfl rfl ?c1 ?c2 ?c3 ?c4 ?c5 ?_)
  case c1 =>
    intro j u hj
    match j, hj with
    | 0, hj => simp at hj; subst hj; simp [Addr.add]
  case c2 => first | (intro u hu; simp at hu; subst hu; rfl) | rfl
  case c3 => unfold maxLen; omega
  case c4 => omega
  case c5 => first | omega | (simp; omega)
  intro vT' w1 hT1 hg1 _ hat1
  obtain ⟨aoT, capT, rfl⟩ := own_slice hT1
  obtain ⟨m1, m2, m3, m4⟩ := book_mid (vT' := .slice aoT (K.length + 1) capT) (unhide HK) hg1
  have d1 : w1.cell? ⟨gB, 1, none⟩ = some vT := block_cell m1 1
  have d2 : w1.frozen? ⟨gB, 1, none⟩ = false := block_free m1 1
  have d3 : (w1.setCell ⟨gB, 1, none⟩ (.slice aoT (K.length + 1) capT)).cell? ⟨gB, 3, none⟩ = some vN := block_cell m2 3
  have d4 : (w1.setCell ⟨gB, 1, none⟩ (.slice aoT (K.length + 1) capT)).frozen? ⟨gB, 3, none⟩ = false := block_free m2 3
  have HT1 := hide hT1
  have Hg1 := hide hg1
  have Hat1 := hide hat1
  clear hT1 hg1 hat1 m1 m2 hown c1 f1
  go_wp2_with (at_builtin; refine wpList_append_own_at _ rfl _ _ 63 rfl B 9 i1 (.string ⟨#[]⟩) 1 16 Try.underlying63 ki kz0 kz1 kz2 rfl (by decide) _ _ _ rfl (m3.alloc _) ⟨w1.heap.size, 0, none⟩ 1 1 [.string (bs x)] rfl rfl ?e1 ?e2 ?e3 ?e4 ?e5 ?_)
  case e1 =>
    intro j u hj
    match j, hj with
    | 0, hj =>
      simp at hj
      subst hj
      exact new_after_set w1 _ _ _ _
  case e2 => first | (intro u hu; simp at hu; subst hu; rfl) | rfl
  case e3 => unfold maxLen; omega
  case e4 => omega
  case e5 => first | omega | (simp; omega)
  intro vN' w4 hN1 hg2 _ hat2
  obtain ⟨aoN, capN, rfl⟩ := own_slice hN1
  have b4 := book_four (unhide HK) (unhide Hg1) hg2
  have e3 : w4.cell? ⟨gB, 3, none⟩ = some vN := block_cell b4 3
  have e4 : w4.frozen? ⟨gB, 3, none⟩ = false := block_free b4 3
  have fin := hide (book_end (unhide HK) (unhide HV) (unhide HAP) (unhide HT1) (unhide Hg1) (unhide Hat1) hN1 hg2 hat2)
  clear b4 hN1 hg2 hat2 d1 d2 d3 d4 m3
  go_wp2
  go_end0
  exact ⟨rfl, _, _, (unhide fin).1, (unhide fin).2⟩

end Go.Proofs.Ytgpojbgjfibblaa.texts
