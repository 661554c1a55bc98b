/-
  The walk of Honest (gistkeep).
  Conditions stand in each theorem.
-/
import Derived.Test.YtgpojbgjfibblaaPart40
import Derived.Test.YtgpojbgjfibblaaPart6
namespace Go.Proofs.Ytgpojbgjfibblaa.texts
open Go.RowKit
set_option linter.unusedVariables false
attribute [local go_sem ↓] Go.wp_at_zero Go.wp_at_succ

def pcells (ps : List Pk) : List Value := ps.flatMap (fun p => p.cells.toList)
theorem pcells_length (ps : List Pk) : (pcells ps).length = ps.length * 8 := by
  have := pflat_length ps
  unfold pcells
  omega
theorem pcells_snoc (ps : List Pk) (p : Pk) : pcells (ps ++ [p]) = pcells ps ++ p.cells.toList := by simp [pcells]
theorem pcells_get (ps : List Pk) (n j : Nat) (hn : n < ps.length) (hj : j < 8) : (pcells ps)[n * 8 + j]? = (ps.getD n zeroP).cells[j]? := by
  rw [Nat.mul_comm]
  exact pflat_get ps n j hn hj
theorem own_only {w w' : World} {base : Nat} {e : TypeId} {size : Nat} {v : Value} {n : Nat} {xs : List Value} (h : w.ownsRow base e size v n xs) {S : Nat → Prop} (o : Only S w w') (hS : ∀ k, base ≤ k → ¬ S k) : w'.ownsRow base e size v n xs := by
  refine ⟨h.1, ?_⟩
  rcases h.2 with h2 | ⟨g, cap, cur, hv, hg, hh, r⟩
  · exact Or.inl h2
  · exact Or.inr ⟨g, cap, cur, hv, hg, o.keep hh (hS g hg), r⟩
/-- a row's block has its elements' type -/
theorem own_type {w : World} {base : Nat} {e : TypeId} {size : Nat} {v : Value} {n : Nat} {xs : List Value} (h : w.ownsRow base e size v n xs) {g : Nat} (hg : v.ownBlock = some g) : ∃ cur, w.heap[g]? = some (.cells cur e (0, 0)) := by
  rcases h.2 with ⟨rfl, _⟩ | ⟨g', cap, cur, rfl, _, hh, _⟩
  · simp [Value.ownBlock] at hg
  · simp [Value.ownBlock] at hg; subst hg; exact ⟨cur, hh⟩
theorem own_apart {w : World} {base : Nat} {v u : Value} {n k : Nat} {xs ys : List Value} (h1 : w.ownsRow base 9 1 v n xs) (h2 : w.ownsRow base 51 8 u k ys) (g : Nat) (hv : v.ownBlock = some g) : u.ownBlock ≠ some g := by
  intro hu
  obtain ⟨c1, e1⟩ := own_type h1 hv
  obtain ⟨c2, e2⟩ := own_type h2 hu
  rw [e1] at e2
  simp at e2
theorem own_pks {w : World} {base : Nat} {u : Value} {ps : List Pk} (h : w.ownsRow base 51 8 u ps.length (pcells ps)) (h0 : 0 < ps.length) : ∃ g cap, u = .slice (some ⟨g, 0, none⟩) ps.length cap ∧ ∀ n j, n < ps.length → j < 8 → w.cell? ⟨g, n * 8 + j, none⟩ = (ps.getD n zeroP).cells[j]? := by
  rcases h.2 with ⟨rfl, hn⟩ | ⟨g, cap, cur, rfl, hb, hg, hnc, hcm, hcs, htake⟩
  · omega
  · refine ⟨g, cap, rfl, fun n j hn hj => ?_⟩
    have e := pcells_get ps n j hn hj
    have hsz : j < (ps.getD n zeroP).cells.size := hj
    rw [Array.getElem?_eq_getElem hsz] at e ⊢
    have := h.cells (g := g) rfl (n * 8 + j) _ e
    rw [Addr.add_mid, Nat.zero_add] at this
    exact this

/-- what a line has about it in Honest -/
structure HonIn (W : World) (Bz b s y : Nat) (m : Ln) (X : Snd) (Y : Rcv) (fs : List (List UInt8)) (ps : List Pk) (v u : Value) (wr : World) : Prop where
  ln : LnAt wr b m
  snd : SndAt wr s X
  rcv : RcvAt wr y Y
  bel : Below W.heap.size W wr
  fo : wr.ownsRow Bz 9 1 v fs.length (strs fs)
  po : wr.ownsRow Bz 51 8 u ps.length (pcells ps)
  zb : Bz ≤ wr.heap.size
theorem HonIn.taken {W : World} {Bz b s y : Nat} {m : Ln} {X : Snd} {Y Y' : Rcv} {fs : List (List UInt8)} {ps : List Pk} {v u : Value} {wr w' : World} (h : HonIn W Bz b s y m X Y fs ps v u wr) (o : Only (· = y) wr w') (hr : RcvAt w' y Y') (hyz : y < Bz) (hyW : W.heap.size ≤ y) (hby : b ≠ y) (hsy : s ≠ y) : HonIn W Bz b s y m X Y' fs ps v u w' :=
  ⟨o.keep h.ln hby, o.keep h.snd hsy, hr, below_only h.bel o (fun k hk => by omega), own_only h.fo o (fun k hk e => by omega), own_only h.po o (fun k hk e => by omega), Nat.le_trans h.zb o.size⟩
theorem HonIn.sent {W : World} {Bz b s y : Nat} {m m2 : Ln} {X X2 : Snd} {Y : Rcv} {fs : List (List UInt8)} {ps : List Pk} {v u : Value} {wr w1 w2 : World} {O : Obj} (h : HonIn W Bz b s y m X Y fs ps v u wr) (o1 : Only (· = b) wr w1) (o2 : Only (fun k => k = b ∨ k = s) (w1.alloc O) w2) (hl : LnAt w2 b m2) (hs : SndAt w2 s X2)
    (hbz : b < Bz) (hsz : s < Bz) (hbW : W.heap.size ≤ b) (hsW : W.heap.size ≤ s) (hby : b ≠ y) (hsy : s ≠ y) : HonIn W Bz b s y m2 X2 Y fs ps v u w2 :=
  ⟨hl, hs, o2.keep (block_alloc (o1.keep h.rcv (fun e => hby e.symm)) _) (by omega), below_only (grew_alloc (below_only h.bel o1 (fun k hk => by omega)) _) o2 (fun k hk => by omega),
   own_only ((own_only h.fo o1 (fun k hk e => by omega)).alloc _) o2 (fun k hk e => by omega), own_only ((own_only h.po o1 (fun k hk e => by omega)).alloc _) o2 (fun k hk e => by omega), Nat.le_trans h.zb (Nat.le_trans o1.size (Nat.le_trans (by simp) o2.size))⟩
theorem HonIn.drew {W : World} {Bz b s y : Nat} {m : Ln} {X : Snd} {Y : Rcv} {fs : List (List UInt8)} {ps : List Pk} {v u : Value} {wr : World} (h : HonIn W Bz b s y m X Y fs ps v u wr) : HonIn W Bz b s y m X Y fs ps v u wr.drew := ⟨h.ln, h.snd, h.rcv, h.bel.drew, h.fo, h.po, h.zb⟩
/-- a frame more -/
theorem HonIn.frame {W : World} {Bz b s y : Nat} {m : Ln} {X : Snd} {Y : Rcv} {fs : List (List UInt8)} {ps : List Pk} {v u v' : Value} {wr w3 : World} {F : List UInt8} {O : Obj} (h : HonIn W Bz b s y m X Y fs ps v u wr) (hg : (wr.alloc O).grownBy w3 v.ownBlock) (ho : w3.ownsRow Bz 9 1 v' (fs.length + 1) (strs fs ++ [.string (bs F)]))
    (hbz : b < Bz) (hsz : s < Bz) (hyz : y < Bz) (hzW : W.heap.size ≤ Bz) : HonIn W Bz b s y m X Y (fs ++ [F]) ps v' u w3 := by
  have keepB : ∀ k O', k < Bz → wr.heap[k]? = some O' → w3.heap[k]? = some O' := fun k O' hk e => by
    have e2 := block_alloc e O
    rw [hg.block k (block_lt e2) (fun e3 => by have := (h.fo.lt k e3.symm).1; omega)]
    exact e2
  refine ⟨keepB b _ hbz h.ln, keepB s _ hsz h.snd, keepB y _ hyz h.rcv, (h.bel.alloc (Nat.le_trans hzW h.zb) _).grown hg (by simp; have := h.zb; omega) (fun k hk => Nat.le_trans hzW (h.fo.lt k hk).1), ?_, ?_, Nat.le_trans h.zb (Nat.le_trans (by simp) hg.size)⟩
  · rw [strs_snoc]; simpa using ho
  · refine (h.po.alloc O).kept hg ?_
    cases e : u.ownBlock with
    | none => exact Or.inl rfl
    | some g => exact Or.inr (fun e2 => own_apart h.fo h.po g e2.symm e)
theorem HonIn.packet {W : World} {Bz b s y : Nat} {m : Ln} {X : Snd} {Y : Rcv} {fs : List (List UInt8)} {ps : List Pk} {v u u' : Value} {wr w3 : World} {P : Pk} {O : Obj} (h : HonIn W Bz b s y m X Y fs ps v u wr) (hg : (wr.alloc O).grownBy w3 u.ownBlock) (ho : w3.ownsRow Bz 51 8 u' (ps.length + 1) (pcells ps ++ P.cells.toList))
    (hbz : b < Bz) (hsz : s < Bz) (hyz : y < Bz) (hzW : W.heap.size ≤ Bz) : HonIn W Bz b s y m X Y fs (ps ++ [P]) v u' w3 := by
  have keepB : ∀ k O', k < Bz → wr.heap[k]? = some O' → w3.heap[k]? = some O' := fun k O' hk e => by
    have e2 := block_alloc e O
    rw [hg.block k (block_lt e2) (fun e3 => by have := (h.po.lt k e3.symm).1; omega)]
    exact e2
  refine ⟨keepB b _ hbz h.ln, keepB s _ hsz h.snd, keepB y _ hyz h.rcv, (h.bel.alloc (Nat.le_trans hzW h.zb) _).grown hg (by simp; have := h.zb; omega) (fun k hk => Nat.le_trans hzW (h.po.lt k hk).1), ?_, ?_, Nat.le_trans h.zb (Nat.le_trans (by simp) hg.size)⟩
  · refine (h.fo.alloc O).kept hg ?_
    cases e : v.ownBlock with
    | none => exact Or.inl rfl
    | some g => exact Or.inr (fun e2 => own_apart h.fo h.po g e e2.symm)
  · rw [pcells_snoc]; simpa using ho
theorem infoP : (Try.prog.info? 51).map (fun i => (i.zero, i.size, i.bytes)) = some (some (.agg zeroP.cells), 8, 40) := by kernel_rfl
theorem pk_one (p : Pk) : ∀ u ∈ p.cells.toList, u.oneCell' = true := by
  intro u hu
  simp only [Pk.cells, List.mem_cons, List.not_mem_nil, or_false] at hu
  rcases hu with h | h | h | h | h | h | h | h <;> (subst h; rfl)
/-- a slice value reads as a list of whole numbers -/
structure IntsAt (w : World) (v : Value) (T : List Int) (ao : Option Addr) (b off cap : Nat) : Prop where
  form : v = .slice ao T.length cap
  addr : 0 < T.length → ao = some ⟨b, off, none⟩
  cell : ∀ i, i < T.length → w.cell? ⟨b, off + i, none⟩ = some (.int .i64 (T.getD i 0)) ∧ Raw (T.getD i 0)

end Go.Proofs.Ytgpojbgjfibblaa.texts
