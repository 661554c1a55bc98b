/-
  The book of lists (package gistlaw): the walks of mark and name; what the steps of holds do to the book.
  Conditions stand in each theorem.
-/
import Derived.Test.YtgpojbgjfibblaaBookAids
namespace Go.Proofs.Ytgpojbgjfibblaa.texts
open Go.RowKit
set_option linter.unusedVariables false
attribute [local go_sem] bs_size bs_append List.length_append bs_list bs_toList bs_extract

theorem BookAt.grew {B : Nat} {w w' : World} {gB : Nat} {vT vN : Value} {next : Int} {K : List (Value × List UInt8)} (h : BookAt B w gB vT vN next K) (hb : Below w.heap.size w w') : BookAt B w' gB vT vN next K :=
  ⟨block_keep h.blk hb, own_keep h.oT hb, own_keep h.oN hb, h.low, fun e he => ⟨(h.kept e he).1.keep hb.size (fun g _ hlt => hb.block g hlt), (h.kept e he).2⟩⟩

/-- a write elsewhere: the book stays -/
theorem BookAt.other {B : Nat} {w w' : World} {gB : Nat} {vT vN : Value} {next : Int} {K : List (Value × List UInt8)} (h : BookAt B w gB vT vN next K) (hz : w.heap.size ≤ w'.heap.size)
    (hs : ∀ k, k < w.heap.size → (k = gB ∨ vT.ownBlock = some k ∨ vN.ownBlock = some k) → w'.heap[k]? = w.heap[k]?) (hk : ∀ e ∈ K, KeptOk w' e.1 e.2) : BookAt B w' gB vT vN next K := by
  have own : ∀ {e : TypeId} {v : Value} {n : Nat} {xs : List Value}, w.ownsRow B e 1 v n xs → (∀ k, v.ownBlock = some k → w'.heap[k]? = w.heap[k]?) → w'.ownsRow B e 1 v n xs := by
    intro e v n xs ho hb
    refine ⟨ho.1, ?_⟩
    rcases ho.2 with h2 | ⟨g, cap, cur, rfl, hg, hh, r⟩
    · exact Or.inl h2
    · exact Or.inr ⟨g, cap, cur, rfl, hg, by rw [hb g rfl]; exact hh, r⟩
  refine ⟨by rw [hs gB (block_lt h.blk) (Or.inl rfl)]; exact h.blk, own h.oT (fun k e => hs k (own_lt h.oT e).2 (Or.inr (Or.inl e))), own h.oN (fun k e => hs k (own_lt h.oN e).2 (Or.inr (Or.inr e))), h.low, fun e he => ⟨hk e he, (h.kept e he).2⟩⟩

set_option maxRecDepth 100000 in
set_option maxHeartbeats 1000000 in
theorem mark_any (B : Nat) (w : World) (gB : Nat) (vT vN : Value) (next : Int) (K : List (Value × List UInt8)) (hK : BookAt B w gB vT vN next K) (h0 : -1073741824 ≤ next) (h1 : next ≤ 1073741824) :
    Calls Try.prog 68 #[.pointer (some ⟨gB, 0, none⟩)] w fun e w' => e = .returned (.int .i64 (next - 1)) ∧ w' = w.setCell ⟨gB, 4, none⟩ (.int .i64 (next - 1)) := by
  have c1 : w.cell? ⟨gB, 4, none⟩ = some (.int .i64 next) := block_cell hK.blk 4
  have f1 : w.frozen? ⟨gB, 4, none⟩ = false := block_free hK.blk 4
  clear hK
  go_enter Try.func68, Try.ntmps68
  go_wp2
  go_ret
  exact ⟨rfl, rfl⟩
theorem mark_book {B : Nat} {w : World} {gB : Nat} {vT vN : Value} {next : Int} {K : List (Value × List UInt8)} (hK : BookAt B w gB vT vN next K) (m : Int) : BookAt B (w.setCell ⟨gB, 4, none⟩ (.int .i64 m)) gB vT vN m K := by
  obtain ⟨s1, s2, s3⟩ := hK.sep
  refine ⟨block_put hK.blk 4 _, ownsRow_setCell_other hK.oT s1 _, ownsRow_setCell_other hK.oN s2 _, hK.low, fun e he => ⟨(hK.kept e he).1.keep (by simp) (fun g hg hlt => Below.heap_setCell _ _ _ _ (by have := ((hK.kept e he).2 g hg).1; simpa using this)), (hK.kept e he).2⟩⟩

theorem four_bytes (w : World) (a b c d : Int) (ha : 0 ≤ a ∧ a < 256) (hb : 0 ≤ b ∧ b < 256) (hc : 0 ≤ c ∧ c < 256) (hd : 0 ≤ d ∧ d < 256) :
    ∃ x, (convert 61 9 (.slice (some ⟨w.heap.size, 0, none⟩) 4 4)).run Try.prog (w.alloc (.cells #[.int .u8 a, .int .u8 b, .int .u8 c, .int .u8 d] 5)) = .ok (.string (bs x)) (w.alloc (.cells #[.int .u8 a, .int .u8 b, .int .u8 c, .int .u8 d] 5)) := by
  have e : ∀ z : Int, 0 ≤ z ∧ z < 256 → (((UInt8.ofNat z.toNat).toNat : Nat) : Int) = z := by
    intro z hz
    rw [UInt8.toNat_ofNat']; omega
  refine ⟨[UInt8.ofNat a.toNat, UInt8.ofNat b.toNat, UInt8.ofNat c.toNat, UInt8.ofNat d.toNat], run_convert_bytes_back (P := Try.prog) _ 61 9 5 ⟨w.heap.size, 0, none⟩ 4 [UInt8.ofNat a.toNat, UInt8.ofNat b.toNat, UInt8.ofNat c.toNat, UInt8.ofNat d.toNat] Try.underlying61 Try.underlying5 Try.underlying9 (fun j hj => ?_)⟩
  rw [show ((⟨w.heap.size, 0, none⟩ : Addr).add j) = ⟨w.heap.size, j, none⟩ by simp [Addr.add]; omega, block_cell (heap_alloc_new w _) j]
  match j, hj with
  | 0, _ => exact congrArg (fun z => some (Value.int .u8 z)) (e a ha).symm
  | 1, _ => exact congrArg (fun z => some (Value.int .u8 z)) (e b hb).symm
  | 2, _ => exact congrArg (fun z => some (Value.int .u8 z)) (e c hc).symm
  | 3, _ => exact congrArg (fun z => some (Value.int .u8 z)) (e d hd).symm

set_option maxRecDepth 100000 in
set_option maxHeartbeats 1000000 in
theorem name_any (n : Int) (w : World) (h0 : -1073741825 ≤ n) (h1 : n ≤ 1073741825) :
    Calls Try.prog 67 #[.int .i64 n] w fun e w' => ∃ x, e = .returned (.string (bs x)) ∧ Below w.heap.size w w' := by
  obtain ⟨x, hx⟩ := four_bytes w 35 (n % 256) (n / 256 % 256) (n / 65536 % 256) (by omega) (by omega) (by omega) (by omega)
  go_enter Try.func67, Try.ntmps67
  go_wp2
  go_ret
  exact ⟨x, rfl, (Below.refl _ _).alloc (Nat.le_refl _) _⟩

/-- n times a text -/
def reps (n : Nat) (x : List UInt8) : List Value := List.replicate n (.string (bs x))

/-- a list of the caller's that is written full, while the book takes it in: l, its texts all x; the lists in its block have x as their mark and are no longer than c -/
structure Hold (B : Nat) (w : World) (gB : Nat) (vT vN : Value) (next : Int) (K : List (Value × List UInt8)) (l : Value) (n c : Nat) (x : List UInt8) : Prop where
  book : BookAt B w gB vT vN next K
  own : w.ownsRow B 9 1 l n (reps n x)
  apart : ApartOf l gB vT vN
  same : ∀ e ∈ K, ∀ g, l.ownBlock = some g → e.1.ownBlock = some g → e.2 = x ∧ ∃ n' cap', e.1 = .slice (some ⟨g, 0, none⟩) n' cap' ∧ n' ≤ c

theorem reps_at {n i : Nat} {x : List UInt8} (h : i < n) : (reps n x)[i]? = some (.string (bs x)) := by
  unfold reps; rw [List.getElem?_replicate, if_pos h]

/-- what is owned and all x may be kept -/
theorem kept_own {w : World} {B : Nat} {v : Value} {n : Nat} {x : List UInt8} (h : w.ownsRow B 9 1 v n (reps n x)) : KeptOk w v x := by
  rcases h.2 with ⟨rfl, rfl⟩ | ⟨g, cap, cur, rfl, hb, hg, r⟩
  · exact Or.inl rfl
  · exact Or.inr ⟨g, n, cap, rfl, (Array.getElem?_eq_some_iff.1 hg).1, fun i hi => by rw [h.cellAt i (by omega), reps_at hi]⟩

/-- the append finds room: the same block -/
theorem hold_fits {B : Nat} {w w1 : World} {gB g : Nat} {vT vN : Value} {next : Int} {K : List (Value × List UInt8)} {n m c cap : Nat} {x : List UInt8} {o : Obj}
    (h : Hold B w gB vT vN next K (.slice (some ⟨g, 0, none⟩) n cap) n c x) (hc : c ≤ n + m) (hcap : n + m ≤ cap)
    (ho : w1.ownsRow B 9 1 (.slice (some ⟨g, 0, none⟩) (n + m) cap) (n + m) (reps n x ++ reps m x)) (hg : (w.alloc o).grownBy w1 (some g)) :
    Hold B w1 gB vT vN next K (.slice (some ⟨g, 0, none⟩) n cap) n (n + m) x ∧ KeptOk w1 (.slice (some ⟨g, 0, none⟩) (n + m) cap) x ∧ ApartOf (.slice (some ⟨g, 0, none⟩) (n + m) cap) gB vT vN := by
  have er : reps n x ++ reps m x = reps (n + m) x := by unfold reps; rw [List.replicate_append_replicate]
  rw [er] at ho
  have hz : w.heap.size ≤ w1.heap.size := by have := hg.size; simp at this; omega
  have hap := h.apart g rfl
  have cells : ∀ i, i < n + m → w1.cell? ⟨g, i, none⟩ = some (.string (bs x)) := fun i hi => by rw [ho.cellAt i (by omega), reps_at hi]
  have glt : g < w1.heap.size := (own_lt ho rfl).2
  refine ⟨⟨?_, ?_, h.apart, fun e he g' h1 h2 => ?_⟩, kept_own ho, fun g' hg' => h.apart g' (by simpa [Value.ownBlock] using hg')⟩
  · refine h.book.other hz (fun k hk hs => ?_) (fun e he => ?_)
    · have hne : k ≠ g := by
        rcases hs with rfl | hs | hs
        · exact fun e => hap.1 e.symm
        · intro e; subst e; exact hap.2.1 hs
        · intro e; subst e; exact hap.2.2 hs
      rw [hg.block k (by simp; omega) (by simpa using hne), Below.heap_alloc _ _ _ hk]
    · have hk := (h.book.kept e he).1
      by_cases hb : e.1.ownBlock = some g
      · obtain ⟨e2, n', cap', ev, hn'⟩ := h.same e he g rfl hb
        rw [ev, e2]
        exact Or.inr ⟨g, n', cap', rfl, glt, fun i hi => cells i (by omega)⟩
      · exact hk.keep hz (fun g' hg' hlt => by
          have hne : g' ≠ g := fun e' => hb (by rw [hg', e'])
          rw [hg.block g' (by simp; omega) (by simpa using hne), Below.heap_alloc _ _ _ hlt])
  · rcases ho.2 with ⟨h0, _⟩ | ⟨g', cap', cur, hv, hb, hh, hnc, hcm, hcs, htake⟩
    · simp at h0
    · simp only [Value.slice.injEq, Option.some.injEq, Addr.mk.injEq, and_true, true_and] at hv
      obtain ⟨rfl, rfl⟩ := hv
      refine ⟨by simp [reps], Or.inr ⟨g, cap, cur, rfl, hb, hh, by omega, hcm, hcs, ?_⟩⟩
      have := congrArg (List.take (n * 1)) htake
      rw [List.take_take, Nat.min_eq_left (by omega)] at this
      rw [this]
      unfold reps
      rw [List.take_replicate, Nat.min_eq_left (by omega), Nat.mul_one]
  · obtain ⟨e2, n', cap', ev, hn'⟩ := h.same e he g' h1 h2
    exact ⟨e2, n', cap', ev, by omega⟩

/-- the append makes a new block -/
theorem hold_grows {B : Nat} {w w1 : World} {gB : Nat} {vT vN l v' : Value} {next : Int} {K : List (Value × List UInt8)} {n m c : Nat} {x : List UInt8} {o : Obj}
    (h : Hold B w gB vT vN next K l n c x) (ho : w1.ownsRow (w.alloc o).heap.size 9 1 v' (n + m) (reps n x ++ reps m x)) (hg : (w.alloc o).grownBy w1 none) :
    Hold B w1 gB vT vN next K l n c x ∧ KeptOk w1 v' x ∧ ApartOf v' gB vT vN ∧ (∀ g, l.ownBlock = some g → v'.ownBlock ≠ some g) := by
  have er : reps n x ++ reps m x = reps (n + m) x := by unfold reps; rw [List.replicate_append_replicate]
  rw [er] at ho
  have hbel : Below w.heap.size w w1 := ((Below.refl _ _).alloc (Nat.le_refl _) o).grown hg (by simp) (fun k hk => by cases hk)
  have new : ∀ g, v'.ownBlock = some g → w.heap.size < g := fun g e => by have := (own_lt ho e).1; simp at this; omega
  refine ⟨⟨h.book.grew hbel, own_keep h.own hbel, h.apart, h.same⟩, kept_own ho, fun g e => ?_, fun g e1 e2 => ?_⟩
  · have := new g e
    refine ⟨fun e' => ?_, fun e' => ?_, fun e' => ?_⟩
    · have := block_lt h.book.blk; omega
    · have := (own_lt h.book.oT e').2; omega
    · have := (own_lt h.book.oN e').2; omega
  · have := new g e2
    have := (own_lt h.own e1).2
    omega

/-- the book has taken a list in -/
theorem hold_keep {B : Nat} {w w1 : World} {gB : Nat} {vT vN vT' vN' l v : Value} {next : Int} {K : List (Value × List UInt8)} {n c : Nat} {x : List UInt8}
    (h : Hold B w gB vT vN next K l n c x) (hb : BookAt B w1 gB vT' vN' next (K ++ [(v, x)])) (hs : BookStep B w w1 gB vT vN vT' vN')
    (hv : ∀ g, l.ownBlock = some g → v.ownBlock = some g → ∃ n' cap', v = .slice (some ⟨g, 0, none⟩) n' cap' ∧ n' ≤ c) : Hold B w1 gB vT' vN' next (K ++ [(v, x)]) l n c x := by
  have hl : ∀ g, l.ownBlock = some g → w1.heap[g]? = w.heap[g]? := fun g e => hs.frame g (own_lt h.own e).2 (h.apart g e).1 (h.apart g e).2.1 (h.apart g e).2.2
  refine ⟨hb, ?_, fun g e => ⟨(h.apart g e).1, ?_, ?_⟩, fun e he g h1 h2 => ?_⟩
  · refine ⟨h.own.1, ?_⟩
    rcases h.own.2 with h2 | ⟨g, cap, cur, rfl, hg, hh, r⟩
    · exact Or.inl h2
    · exact Or.inr ⟨g, cap, cur, rfl, hg, by rw [hl g rfl]; exact hh, r⟩
  · rcases hs.tT with e' | ⟨g', e', hg'⟩
    · rw [e']; exact (h.apart g e).2.1
    · rw [e']; have := (own_lt h.own e).2; simp; omega
  · rcases hs.tN with e' | ⟨g', e', hg'⟩
    · rw [e']; exact (h.apart g e).2.2
    · rw [e']; have := (own_lt h.own e).2; simp; omega
  · rcases List.mem_append.1 he with h3 | h3
    · exact h.same e h3 g h1 h2
    · simp at h3; subst h3
      obtain ⟨n', cap', e1, e2⟩ := hv g h1 h2
      exact ⟨rfl, n', cap', e1, e2⟩

theorem Hold.more {B : Nat} {w : World} {gB : Nat} {vT vN l : Value} {next : Int} {K : List (Value × List UInt8)} {n c c' : Nat} {x : List UInt8} (h : Hold B w gB vT vN next K l n c x) (hc : c ≤ c') : Hold B w gB vT vN next K l n c' x :=
  ⟨h.book, h.own, h.apart, fun e he g a b => by obtain ⟨e1, n', cap', e2, e3⟩ := h.same e he g a b; exact ⟨e1, n', cap', e2, by omega⟩⟩

/-- an append of m marks to the list: wherever it lies then -/
theorem append_hold {B : Nat} {w0 : World} {gB : Nat} {vT vN l : Value} {next : Int} {K : List (Value × List UInt8)} {n c m : Nat} {x : List UInt8} (hH : Hold B w0 gB vT vN next K l n c x) (hc : c ≤ n + m) (hm : 0 < m) (hnm : n + m ≤ 1000000)
    {ops : Array Oper} {rest : List Oper} {o : Oper} {a : Act} {Q : Exit → Act → World → Prop} (hgd : o.guard = none) (s y : Operand)
    (ho : o.op = Op.call { callee := Callee.builtin Builtin.append, args := #[s, y], argTypes := #[63, 63] }) (hs : a.eval s = l) (cells : Array Value) (hcs : cells.toList = reps m x) (hy : a.eval y = .slice (some ⟨w0.heap.size, 0, none⟩) m m)
    (h : ∀ v' w', Hold B w' gB vT vN next K l n (n + m) x → KeptOk w' v' x → ApartOf v' gB vT vN → (∀ g, l.ownBlock = some g → v'.ownBlock = some g → ∃ n' cap', v' = .slice (some ⟨g, 0, none⟩) n' cap' ∧ n' ≤ n + m) → Below B w0 w' → (∃ ao cap, v' = .slice ao (n + m) cap) → wpList Try.prog ops Q rest (a.put o.dst v') w') :
    wpList Try.prog ops Q (o :: rest) a (w0.alloc (.cells cells 9)) := by
  obtain ⟨i1, ki, kz0, kz1, kz2⟩ := info_parts infoS
  have hB0 : B ≤ w0.heap.size := by have := block_lt hH.book.blk; have := hH.book.low; omega
  have hb0 : Below B w0 (w0.alloc (.cells cells 9)) := (Below.refl _ _).alloc hB0 _
  have hnews : ∀ j u, (reps m x)[j]? = some u → (w0.alloc (.cells cells 9)).cell? ((⟨w0.heap.size, 0, none⟩ : Addr).add j) = some u := by
    intro j u hj
    rw [show ((⟨w0.heap.size, 0, none⟩ : Addr).add j) = ⟨w0.heap.size, j, none⟩ by simp [Addr.add]; omega, block_cell (heap_alloc_new w0 _) j, ← hj, ← hcs]
    simp
  have hlen : (reps m x).length = m * 1 := by simp [reps]
  have honec : ∀ u ∈ reps m x, u.oneCell' = true := by
    intro u hu
    unfold reps at hu
    obtain ⟨_, rfl⟩ := List.mem_replicate.1 hu
    rfl
  have grows : ∀ ao cap, l = .slice ao n cap → (ao = none → n = 0 ∧ cap = 0) → cap < n + m → (∀ b, ao = some b → ∀ j u, (reps n x)[j]? = some u → (w0.alloc (.cells cells 9)).cell? (b.add j) = some u) →
      wpList Try.prog ops Q (o :: rest) a (w0.alloc (.cells cells 9)) := by
    intro ao cap hl hnone hfull hold
    refine wpList_append_grows (P := Try.prog) _ hgd s y 63 ho 9 i1 (.string ⟨#[]⟩) 1 16 Try.underlying63 ki kz0 kz1 kz2 rfl (by decide) ao n cap (reps n x) (hs.trans hl) hnone (by simp [reps]) hold ⟨w0.heap.size, 0, none⟩ m m (reps m x) hy hlen hnews honec hfull (by unfold maxLen; omega) (by omega) ?_
    intro v' w' ho' hg'
    obtain ⟨r1, r2, r3, r4⟩ := hold_grows hH ho' hg'
    exact h v' w' (r1.more hc) r2 r3 (fun g e1 e2 => absurd e2 (r4 g e1)) (hb0.grown hg' (by simp; omega) (fun k hk => by cases hk)) (own_slice ho')
  rcases hH.own.2 with ⟨hl, hn0⟩ | ⟨g, cap, cur, hl, hb, hg, hnc, r⟩
  · subst hn0
    exact grows none 0 hl (fun _ => ⟨rfl, rfl⟩) (by omega) (fun b hb => by cases hb)
  · by_cases hfit : n + m ≤ cap
    · subst hl
      refine wpList_append_fits (P := Try.prog) _ hgd s y 63 ho B 9 i1 1 Try.underlying63 ki kz1 g n cap (reps n x) hs (hH.own.alloc _) ⟨w0.heap.size, 0, none⟩ m m (reps m x) hy hlen hnews honec hfit ?_
      intro w' ho' hg'
      obtain ⟨r1, r2, r3⟩ := hold_fits hH hc hfit ho' hg'
      exact h _ w' r1 r2 r3 (fun g' e1 e2 => by simp [Value.ownBlock] at e1; subst e1; exact ⟨n + m, cap, rfl, Nat.le_refl _⟩) (hb0.grown hg' (by simp; omega) (fun k hk => by simp at hk; subst hk; exact hb)) ⟨_, _, rfl⟩
    · refine grows (some ⟨g, 0, none⟩) cap hl (fun e => by cases e) (by omega) (fun b hb' j u hj => ?_)
      simp at hb'
      subst hb'
      have hjn : j < n := by have := (List.getElem?_eq_some_iff.1 hj).1; simpa [reps] using this
      subst hl
      rw [show ((⟨g, 0, none⟩ : Addr).add j) = ⟨g, j, none⟩ by simp [Addr.add]; omega, (hH.own.alloc _).cellAt j (by omega)]
      exact hj

end Go.Proofs.Ytgpojbgjfibblaa.texts
