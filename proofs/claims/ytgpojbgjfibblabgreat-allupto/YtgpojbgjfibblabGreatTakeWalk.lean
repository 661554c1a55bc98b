/-
  The walk of the program's Take (package receiver).
  Conditions stand in each theorem.
-/
import Derived.Test.YtgpojbgjfibblabGreatRcvTake
namespace Go.Proofs.YtgpojbgjfibblabGreat.texts
open Go.RowKit
set_option linter.unusedVariables false
attribute [local go_sem ↓] Go.wp_at_zero Go.wp_at_succ
attribute [local go_sem] bs_size be_length bs_append List.length_append
attribute [local go_sem ↓] loadRx_eq storeRx_eq
attribute [local go_sem] run_loadRx run_storeRx

theorem TkA.start {w w1 : World} {b : Nat} {m : Rcv} (f : Fr) (h : RcvAt w b m) (hb : Below (w.alloc (.cells zeroP.cells 43)).heap.size (w.alloc (.cells zeroP.cells 43)) w1) : TkA w b m f w1.heap.size (w1.alloc (.cells f.cells 168)) :=
  have h1 : RcvAt (w.alloc (.cells zeroP.cells 43)) b m := block_alloc h _
  have h2 := block_keep (heap_alloc_new w (.cells zeroP.cells 43)) hb
  ⟨block_alloc (block_keep h1 hb) _, block_alloc h2 _, heap_alloc_new w1 _, block_lt h2, block_lt h, ((Only.of_below ((Below.refl _ _).alloc (Nat.le_refl _) _)).trans (Only.of_below hb)).alloc _⟩

theorem fr8 (l : List UInt8) : (frOf (readF l)).cid < 8 ∧ (frOf (readF l)).kind < 4 := by
  cases h : readF l with
  | none => exact ⟨by decide, by decide⟩
  | some f => exact ⟨(readF_ok h).1.cid, (readF_ok h).1.kind⟩

set_option maxRecDepth 100000 in
set_option maxHeartbeats 4000000 in
theorem take_bad (m : Rcv) (b : Nat) (l : List UInt8) (w : World) (hm : m.ok) (h : RcvAt w b m) (hl : l.length ≤ 9223372036854775807) (hbad : readF l = none ∨ m.cids ≤ (frOf (readF l)).cid) :
    Calls Tryz.prog 55 #[.pointer (some ⟨b, 0, none⟩), .string (bs l)] w fun e w' => e = .returned (.tuple #[.agg zeroP.cells, .string (bs []), .int .i64 4]) ∧ RcvAt w' b m ∧ Only (· = b) w w' := by
  have c1 := hm.c1
  have c8 := hm.c8
  have H := hide h
  have f8 := (fr8 l).1
  obtain ⟨F, hF⟩ : ∃ F, F = frOf (readF l) := ⟨_, rfl⟩
  rw [← hF] at f8
  obtain ⟨o, ho⟩ : ∃ o, o = (readF l).isSome := ⟨_, rfl⟩
  obtain ⟨FC, hFC⟩ : ∃ FC, FC = F.cells := ⟨_, rfl⟩
  have HX := hide (show ∀ w : World, Calls Tryz.prog 87 #[.string (bs l)] w fun e w' => e = .returned (.tuple #[.agg FC, .bool o]) ∧ Below w.heap.size w w' by
    intro w; rw [hFC, hF, ho]; exact fread_any l w hl)
  have hb2 : o = false ∨ (o = true ∧ m.cids ≤ F.cid) := by
    rcases hbad with e | e
    · left; rw [ho, e]; rfl
    · cases o with
      | false => exact Or.inl rfl
      | true => exact Or.inr ⟨rfl, by rw [hF]; exact e⟩
  have F1 : FC[1]? = some (.int .u8 F.cid) := by rw [hFC]; rfl
  have HFC := hide hFC
  have Hi := hide (show (Tryz.prog.info? 168).map (·.size) = some FC.size by rw [hFC]; exact infoFr)
  have Hs := hide (show Fr.zero.cells.size = FC.size by rw [hFC]; rfl)
  have Ho := hide (show FC.all (·.oneCell') = true by rw [hFC]; exact Fr.cells_one F)
  clear hF ho hbad h hm hFC
  rcases hb2 with rfl | ⟨rfl, hc⟩
  all_goals
    go_enter Tryz.func55, Tryz.ntmps55
    go_wp2_with (first
      | (go_at_call 87; refine (unhide HX _).mono ?_; rintro e w1 ⟨rfl, hb1⟩; have K := TkA.start F (unhide H) hb1; have k0 : (w1.alloc (.cells F.cells 168)).cell? ⟨b, 0, none⟩ = some (.int .i64 m.cids) := (block_cell K.rcv 0).trans (Rcv.get0 m); rw [← unhide HFC] at k0; have HK := hide K; clear K hb1)
      | (refine store_new (ty := 168) (old := Fr.zero.cells) rfl rfl rfl (unhide Hi) (unhide Hs) (unhide Ho) ?_)
      | (refine store_whole (ty := 43) rfl rfl (by rw [unhide HFC]; exact (unhide HK).res) infoPk rfl (Pk.cells_one zeroP) ?_))
    rw [unhide HFC]
    exact ret_whole3 (cs := zeroP.cells) Tryz.results55 rfl (setRow_heap _ _ _ _ _ _ (unhide HK).res) Tryz.underlying43 rfl infoPk rfl ⟨rfl, by rw [RcvAt, setRow_other _ _ _ _ (by have := (unhide HK).bb; omega)]; exact (unhide HK).rcv, (unhide HK).only.new (Nat.le_refl _) _⟩

/-- the receiver's context is stored -/
theorem TkA.stored {w w1 : World} {b gF : Nat} {m : Rcv} {f : Fr} (h : TkA w b m f gF w1) (k : Nat) (D : Rx) (hk : k < m.cs.length) : TkA w b (m.set k D) f gF (w1.setRow b (putRow (rowOf w1 b) (1 + k * 11) D.cells.toList)) := by
  have h1 : w1.heap[b]? = some (.cells m.cells 91 (0, 0)) := h.rcv
  have e : rowOf w1 b = m.cells := by unfold rowOf; rw [h1]
  have hb := h.bb
  have hg := h.gf
  rw [e, Nat.mul_comm k 11, Rcv.put m k D hk]
  exact ⟨setRow_heap _ _ _ _ _ _ h1, by rw [setRow_other _ _ _ _ (by omega)]; exact h.res, by rw [setRow_other _ _ _ _ (by omega)]; exact h.fr, h.gf, h.bb, h.only.setRow rfl _⟩
theorem Apart.other {w w1 : World} {g b : Nat} {C : Array Value} {t : TypeId} (h : Apart w g C t w1) (hb : b < w.heap.size) (D : Array Value) : Apart w g C t (w1.setRow b D) :=
  ⟨by rw [setRow_other _ _ _ _ (by have := h.up; omega)]; exact h.at_, h.up⟩
theorem Apart.new {w w1 : World} (h : w.heap.size < w1.heap.size) (C : Array Value) (t : TypeId) : Apart w w1.heap.size C t (w1.alloc (.cells C t)) := ⟨heap_alloc_new w1 _, h⟩
theorem TkA.lt {w w1 : World} {b gF : Nat} {m : Rcv} {f : Fr} (h : TkA w b m f gF w1) : w.heap.size < w1.heap.size := block_lt h.res

end Go.Proofs.YtgpojbgjfibblabGreat.texts
