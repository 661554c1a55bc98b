/-
  The walk of the document's following (package gistref).
  Conditions stand in each theorem.
-/
import Derived.Test.YtgpojbgjfibblabGreatJoinRefKept
import Derived.Test.YtgpojbgjfibblabGreatSendWalk
import Derived.Deep.DeepCutAuto
namespace Go.Proofs.YtgpojbgjfibblabGreat.texts
open Go.RowKit
set_option linter.unusedVariables false
attribute [local go_sem ↓] Go.wp_at_zero Go.wp_at_succ

/-- the stride of a packet behind these states (the last one last), the last one's Time being known -/
def strideV (l : List St) (time : Nat) (p : Pk) : Nat :=
  match l.getLast? with
  | none => 0
  | some s => if (s.seq + 1) % 65536 = p.seq then (p.time + 4294967296 - time) % 65536 else s.stride

theorem infoRs : (Tryz.prog.info? 128).map (·.size) = some 5 := by kernel_rfl
theorem St.flat_one (s : St) : s.flat.all (·.oneCell') = true := by
  refine Array.all_eq_true_iff_forall_mem.2 (fun v hv => ?_)
  simp only [St.flat, List.mem_toArray, List.mem_cons, List.not_mem_nil, or_false] at hv
  rcases hv with h | h | h | h | h <;> (subst h; rfl)
theorem third_of {w : World} {a b c : Obj} : (((w.alloc a).alloc b).alloc c).heap[w.heap.size + 1 + 1]? = some c := third_alloc w a b c

set_option maxRecDepth 100000 in
set_option maxHeartbeats 2000000 in
theorem rfollow_nil (X : Array Value) (p : Pk) (w : World) (hX : X[5]? = some (.slice none 0 0)) (hp : p.ok) :
    Calls Tryz.prog 45 #[.agg X, .agg p.flat] w fun e w' => e = .returned (.agg (stateN p 0).flat) ∧ Below w.heap.size w w' := by
  have HP := hide hp
  clear hp
  obtain ⟨Z, hZ⟩ : ∃ Z : Array Value, Z = St.zero.flat := ⟨_, rfl⟩
  have zv : ∀ w, (zeroValue 128).run Tryz.prog w = .ok (.agg Z) w := by rw [hZ]; intro w; exact Tryz.zeroValue128 w
  have HZ := hide hZ
  clear hZ
  unfold Pk.flat
  go_enter Tryz.func45, Tryz.ntmps45
  go_wp2_with (first
    | (go_at_call 77; refine (rstateOf_any p 0 _ (unhide HP) (by omega)).mono ?_; rintro e w1 ⟨rfl, hb⟩; have H3 := hide (block_keep (third_alloc w _ _ _) hb); have HB := hide (keep_below ((((Below.refl w.heap.size w).alloc (Nat.le_refl _) _).alloc (by simp) _).alloc (by simp; omega) _) hb (by simp; omega)); clear hb)
    | (refine store_whole (ty := 128) rfl rfl (unhide H3) infoRs (by rw [unhide HZ]; rfl) (St.flat_one _) ?_))
  refine ret_whole Tryz.results45 rfl (setRow_heap _ _ _ _ _ _ (unhide H3)) Tryz.underlying128 rfl infoRs rfl ⟨rfl, below_setRow (unhide HB) (by omega) _⟩

/-- the context, the packet and the last state in memory -/
structure InFo (w : World) (X : Array Value) (p : Pk) (s : St) (w1 : World) : Prop where
  b0 : w1.heap[w.heap.size]? = some (.cells X 126 (0, 0))
  b1 : w1.heap[w.heap.size + 1]? = some (.cells p.flat 120 (0, 0))
  b3 : w1.heap[w.heap.size + 1 + 1 + 1]? = some (.cells s.flat 128 (0, 0))
  below : Below w.heap.size w w1
theorem third4 (w : World) (a b c d : Obj) : ((((w.alloc a).alloc b).alloc c).alloc d).heap[w.heap.size + 1 + 1]? = some c := block_alloc (third_alloc w a b c) d
theorem fourth4 (w : World) (a b c d : Obj) : ((((w.alloc a).alloc b).alloc c).alloc d).heap[w.heap.size + 1 + 1 + 1]? = some d := by
  have := heap_alloc_new (((w.alloc a).alloc b).alloc c) d
  simpa using this
theorem InFo.start (w : World) (X : Array Value) (p : Pk) (s : St) (z : Obj) : InFo w X p s ((((w.alloc (.cells X 126)).alloc (.cells p.flat 120)).alloc z).alloc (.cells s.flat 128)) :=
  ⟨block_alloc (block_alloc (block_alloc (heap_alloc_new w _) _) _) _, block_alloc (second_alloc w _ _ _) _, fourth4 w _ _ _ _, ((((Below.refl _ _).alloc (Nat.le_refl _) _).alloc (by simp) _).alloc (by simp; omega) _).alloc (by simp; omega) _⟩
theorem InFo.call {w w1 w2 : World} {X : Array Value} {p : Pk} {s : St} (h : InFo w X p s w1) (hb : Below w1.heap.size w1 w2) : InFo w X p s w2 :=
  ⟨block_keep h.b0 hb, block_keep h.b1 hb, block_keep h.b3 hb, keep_below h.below hb (Nat.le_of_lt (block_lt h.b0))⟩
theorem InFo.put {w w1 : World} {X : Array Value} {p : Pk} {s : St} (h : InFo w X p s w1) (C : Array Value) : InFo w X p s (w1.setRow (w.heap.size + 1 + 1) C) :=
  ⟨by rw [setRow_other _ _ _ _ (by omega)]; exact h.b0, by rw [setRow_other _ _ _ _ (by omega)]; exact h.b1, by rw [setRow_other _ _ _ _ (by omega)]; exact h.b3, below_setRow h.below (by omega) _⟩
theorem InFo.out {w w1 : World} {X : Array Value} {p : Pk} {s : St} {time : Nat} (h : InFo w X p s w1) (hX : X[6]? = some (.int .i64 time)) :
    w1.cell? ⟨w.heap.size + 1, 0, none⟩ = some (.int .u32 p.src) ∧ w1.cell? ⟨w.heap.size + 1, 1, none⟩ = some (.int .u32 p.dst) ∧ w1.cell? ⟨w.heap.size + 1, 2, none⟩ = some (.int .u16 p.port) ∧ w1.cell? ⟨w.heap.size + 1, 3, none⟩ = some (.int .i64 p.seq) ∧ w1.cell? ⟨w.heap.size + 1, 4, none⟩ = some (.int .i64 p.time) ∧ w1.cell? ⟨w.heap.size + 1, 5, none⟩ = some (.int .i64 p.id) ∧ w1.cell? ⟨w.heap.size + 1, 6, none⟩ = some (.int .i64 p.flags) ∧ w1.cell? ⟨w.heap.size + 1, 7, none⟩ = some (.string (bs p.body)) ∧ w1.cell? ⟨w.heap.size + 1 + 1 + 1, 0, none⟩ = some (.int .i64 s.seq) ∧ w1.cell? ⟨w.heap.size + 1 + 1 + 1, 1, none⟩ = some (.int .i64 s.stride) ∧ w1.cell? ⟨w.heap.size + 1 + 1 + 1, 2, none⟩ = some (.int .i64 s.offset) ∧ w1.cell? ⟨w.heap.size + 1 + 1 + 1, 3, none⟩ = some (.int .i64 s.lag) ∧ w1.cell? ⟨w.heap.size + 1 + 1 + 1, 4, none⟩ = some (.int .i64 s.flags) ∧ w1.cell? ⟨w.heap.size, 6, none⟩ = some (.int .i64 time) ∧ InFo w X p s w1 := by
  refine ⟨?_, ?_, ?_, ?_, ?_, ?_, ?_, ?_, ?_, ?_, ?_, ?_, ?_, (block_cell h.b0 6).trans hX, h⟩
  all_goals first | (rw [block_cell h.b1]; rfl) | (rw [block_cell h.b3]; rfl)

theorem seq_next {a b : Nat} (ha : a < 65536) : (((a : Int) + 1) % bits.pw 16 == (b : Int)) = decide ((a + 1) % 65536 = b) := by
  rw [Bool.eq_iff_iff, beq_iff_eq, decide_eq_true_eq]
  show ((a : Int) + 1) % 65536 = b ↔ _
  omega
/-- a state of the document's is stored, kept whole -/
def storeRs (v u : Value) : Sem Unit := Instr.storeAt 128 v u
theorem storeRs_eq (v u : Value) : Instr.storeAt 128 v u = storeRs v u := rfl
theorem run_storeRs_new (w : World) (C Z : Array Value) (hC : C.size = 5) (hC1 : C.all (·.oneCell') = true) (hZ : Z.size = 5) : (storeRs (.pointer (some ⟨w.heap.size, 0, none⟩)) (.agg C)).run Tryz.prog (w.alloc (.cells Z 128)) = .ok () (w.alloc (.cells C 128)) := by
  have h1 := run_storeVar_row (P := Tryz.prog) (w.alloc (.cells Z 128)) w.heap.size 128 128 Z C (heap_alloc_new w _) (by rw [infoRs, hC]) (by rw [hC, hZ]) hC1
  rw [setRow_alloc_new'] at h1
  simp only [storeRs, Instr.storeAt, Instr.sureAddr, Sem.run_bind, Sem.run_pure, Result.andThen_ok, h1]
def RsIn (w : World) (g : Nat) : Prop := ∃ c t, w.heap[g]? = some (.cells c t (0, 0)) ∧ c.size = 5
def GoodRs (C : Array Value) : Prop := C.size = 5 ∧ C.all (·.oneCell') = true
theorem run_storeRs (w : World) (g : Nat) (C : Array Value) (h : RsIn w g) (hC : GoodRs C) : (storeRs (.pointer (some ⟨g, 0, none⟩)) (.agg C)).run Tryz.prog w = .ok () (w.setRow g C) := by
  obtain ⟨c, t, h1, h2⟩ := h
  have h3 := run_storeVar_row (P := Tryz.prog) w g t 128 c C h1 (by rw [infoRs, hC.1]) (by rw [hC.1, h2]) hC.2
  simp only [storeRs, Instr.storeAt, Instr.sureAddr, Sem.run_bind, Sem.run_pure, Result.andThen_ok, h3]
theorem St.goodRs (s : St) : GoodRs s.flat := ⟨rfl, St.flat_one s⟩
attribute [local go_sem ↓] storeRs_eq
attribute [local go_sem] run_storeRs

set_option maxRecDepth 100000 in
set_option maxHeartbeats 2000000 in
theorem rfollow_some (X : Array Value) (q o cap time : Nat) (l : List St) (s : St) (p : Pk) (w : World) (hX : X[5]? = some (.slice (some ⟨q, o, none⟩) l.length cap)) (hX6 : X[6]? = some (.int .i64 time)) (hl : 1 ≤ l.length) (hl2 : l.length ≤ 1000)
    (hs : w.rangeAt q (o + (l.length - 1) * 5) s.flat.toList) (hso : s.ok) (ht : time < 4294967296) (hp : p.ok) :
    Calls Tryz.prog 45 #[.agg X, .agg p.flat] w fun e w' => e = .returned (.agg (stateN p (if (s.seq + 1) % 65536 = p.seq then (p.time + 4294967296 - time) % 65536 else s.stride)).flat) ∧ Below w.heap.size w w' := by
  have HP := hide hp
  obtain ⟨p1, p2, p3, p4, p5, p6, p7⟩ := hp
  obtain ⟨s1, s2, s3, s4, s5⟩ := hso
  have hq : q < w.heap.size := lt_of_cell (hs 0 _ rfl)
  have hne : ((l.length : Int) == 0) = false := beq_eq_false_iff_ne.2 (by omega)
  obtain ⟨sd, hsd⟩ : ∃ sd, sd = (if (s.seq + 1) % 65536 = p.seq then (p.time + 4294967296 - time) % 65536 else s.stride) := ⟨_, rfl⟩
  have hsd2 : sd < 65536 := by rw [hsd]; split <;> omega
  rw [← hsd]
  have HSD := hide hsd
  obtain ⟨N, hN⟩ : ∃ N, N = (stateN p sd).flat := ⟨_, rfl⟩
  have gN : GoodRs N := by rw [hN]; exact St.goodRs _
  rw [← hN]
  have HNN := hide hN
  clear hsd hN
  obtain ⟨Z, hZ⟩ : ∃ Z : Array Value, Z = St.zero.flat := ⟨_, rfl⟩
  have zv : ∀ w, (zeroValue 128).run Tryz.prog w = .ok (.agg Z) w := by rw [hZ]; intro w; exact Tryz.zeroValue128 w
  have HZ := hide hZ
  obtain ⟨P, hP⟩ : ∃ P, P = p.flat := ⟨_, rfl⟩
  obtain ⟨F, hF⟩ : ∃ F, F = s.flat := ⟨_, rfl⟩
  have HPP := hide hP
  have HFF := hide hF
  have I0 := InFo.start w X p s (.cells Z 128)
  have Z0 := third4 w (.cells X 126) (.cells P 120) (.cells Z 128) (.cells F 128)
  rw [← hP, ← hF] at I0
  rw [← hF] at hs
  have HSR := hide hs
  have HI0 := hide I0
  have HZ0 := hide Z0
  have gs := run_storeRs_new (((w.alloc (.cells X 126)).alloc (.cells P 120)).alloc (.cells Z 128)) F Z (by rw [hF]; rfl) (by rw [hF]; exact St.flat_one s) (by rw [hZ]; rfl)
  have hz3 : (((w.alloc (.cells X 126)).alloc (.cells P 120)).alloc (.cells Z 128)).heap.size = w.heap.size + 1 + 1 + 1 := by simp
  rw [hz3] at gs
  rw [← hP]
  clear hZ hs hP hF I0 Z0 hz3
  have i0 : (0 : Int) ≤ (l.length : Int) - 1 := by omega
  have i1 : (l.length : Int) - 1 < l.length := by omega
  have x1 : IntKind.i64.wrap ((l.length : Int) - 1) = (l.length : Int) - 1 := by rw [IntKind.wrap_i64]; omega
  have x2 : IntKind.i64.wrap ((s.seq : Int) + 1) = (s.seq : Int) + 1 := by rw [IntKind.wrap_i64]; omega
  go_enter Tryz.func45, Tryz.ntmps45
  go_upto_region 4 with (refine load_part (ty := 128) (cs := F) rfl (World.rangeAt_alloc (World.rangeAt_alloc (World.rangeAt_alloc (unhide HSR) _) _) _) Tryz.underlying128 rfl (by rw [unhide HFF]; exact infoRs) ?_)
  generalize (((w.alloc (.cells X 126)).alloc (.cells P 120)).alloc (.cells Z 128)).alloc (.cells F 128) = w4 at HI0 HZ0 ⊢
  obtain ⟨a0, a1, a2, a3, a4, a5, a6, a7, b0, b1, b2, b3, b4, c6, I1⟩ := (unhide HI0).out hX6
  clear I1 gs
  go_cut [26] (fun v wx => v = .bool (decide ((s.seq + 1) % 65536 = p.seq)) ∧ InFo w X p s wx ∧ wx.heap[w.heap.size + 1 + 1]? = some (.cells Z 128 (0, 0)))
  case first =>
    go_quiet ((go_at_call 78; exact Calls.quiet_of_same (bits.mod_any _ _ _ (by omega) (by omega) (by omega) (by omega))))
    all_goals go_wp2_with fail
    all_goals go_meet
    all_goals (case rel => exact ⟨congrArg Value.bool (seq_next s1), ⟨by rw [World.heap_drewN]; exact (unhide HI0).b0, by rw [World.heap_drewN]; exact (unhide HI0).b1, by rw [World.heap_drewN]; exact (unhide HI0).b3, below_drewN (unhide HI0).below _⟩, by rw [World.heap_drewN]; exact unhide HZ0⟩)
  case rest =>
    obtain ⟨rfl, I5, Z5⟩ := hcut
    clear a0 a1 a2 a3 a4 a5 a6 a7 b0 b1 b2 b3 b4 c6 HI0 HZ0
    have HI5 := hide I5
    have HZ5 := hide Z5
    have hzs : Z.size = 5 := by rw [unhide HZ]; rfl
    by_cases hc : (s.seq + 1) % 65536 = p.seq
    · have hcd : decide ((s.seq + 1) % 65536 = p.seq) = true := decide_eq_true hc
      rw [hcd]
      have x3 : IntKind.i64.wrap ((p.time : Int) - time) = (p.time : Int) - time := by rw [IntKind.wrap_i64]; omega
      have x4 : ((p.time : Int) - time) % bits.pw (Int.toNat 16) = (sd : Int) := by rw [unhide HSD, if_pos hc]; show ((p.time : Int) - time) % 65536 = _; omega
      have X4 := hide x4
      clear hc hcd I5 Z5 x4
      go_upto_region 5 with fail
      have HQ := hide (InFo.call (unhide HI5) ((Below.refl _ _).drew : Below wc.heap.size wc wc.drew))
      go_region_held3 (fun w' => w'.cell? ⟨w.heap.size + 1, 0, none⟩ = some (.int .u32 p.src) ∧ w'.cell? ⟨w.heap.size + 1, 1, none⟩ = some (.int .u32 p.dst) ∧ w'.cell? ⟨w.heap.size + 1, 2, none⟩ = some (.int .u16 p.port) ∧ w'.cell? ⟨w.heap.size + 1, 3, none⟩ = some (.int .i64 p.seq) ∧ w'.cell? ⟨w.heap.size + 1, 4, none⟩ = some (.int .i64 p.time) ∧ w'.cell? ⟨w.heap.size + 1, 5, none⟩ = some (.int .i64 p.id) ∧ w'.cell? ⟨w.heap.size + 1, 6, none⟩ = some (.int .i64 p.flags) ∧ w'.cell? ⟨w.heap.size + 1, 7, none⟩ = some (.string (bs p.body)) ∧ w'.cell? ⟨w.heap.size + 1 + 1 + 1, 0, none⟩ = some (.int .i64 s.seq) ∧ w'.cell? ⟨w.heap.size + 1 + 1 + 1, 1, none⟩ = some (.int .i64 s.stride) ∧ w'.cell? ⟨w.heap.size + 1 + 1 + 1, 2, none⟩ = some (.int .i64 s.offset) ∧ w'.cell? ⟨w.heap.size + 1 + 1 + 1, 3, none⟩ = some (.int .i64 s.lag) ∧ w'.cell? ⟨w.heap.size + 1 + 1 + 1, 4, none⟩ = some (.int .i64 s.flags) ∧ w'.cell? ⟨w.heap.size, 6, none⟩ = some (.int .i64 time) ∧ InFo w X p s w')
        ((first
          | (exact (unhide (by assumption : Hid (InFo w X p s _))).out hX6)
          | (exact ((unhide (by assumption : Hid (InFo w X p s _))).put N).out hX6)))
        ((first
          | (go_at_call 78; refine (bits.mod_any _ _ _ (by omega) (by omega) (by omega) (by omega)).mono ?_; rintro e w' ⟨rfl, rfl⟩; rw [unhide X4])
          | (go_at_call 77; refine (rstateOf_any p sd _ (unhide HP) hsd2).mono ?_; rintro e w6 ⟨rfl, hbel⟩; rw [← unhide HNN]; have HQ2 := hide (InFo.call (unhide HQ) hbel); have HZ6 := hide (block_keep (show wc.drew.heap[w.heap.size + 1 + 1]? = _ from unhide HZ5) hbel); have gz : RsIn w6 (w.heap.size + 1 + 1) := ⟨_, _, unhide HZ6, hzs⟩)))
      all_goals go_split_ands
      all_goals go_wp2_with fail
      all_goals refine ret_whole Tryz.results45 rfl (setRow_heap _ _ _ _ _ _ (unhide HZ6)) Tryz.underlying128 rfl (by rw [gN.1]; exact infoRs) rfl ⟨rfl, below_setRow (unhide HQ2).below (by omega) _⟩
    · have hcd : decide ((s.seq + 1) % 65536 = p.seq) = false := decide_eq_false hc
      rw [hcd]
      have hsd3 : sd = s.stride := by rw [unhide HSD, if_neg hc]
      subst hsd3
      obtain ⟨a0, a1, a2, a3, a4, a5, a6, a7, b0, b1, b2, b3, b4, c6, I6⟩ := I5.out hX6
      clear hc hcd I5 I6 Z5
      go_wp2_with (go_at_call 77; refine (rstateOf_any p s.stride _ (unhide HP) hsd2).mono ?_; rintro e w6 ⟨rfl, hbel⟩; rw [← unhide HNN]; have HQ2 := hide (InFo.call (unhide HI5) hbel); have HZ6 := hide (block_keep (unhide HZ5) hbel); have gz : RsIn w6 (w.heap.size + 1 + 1) := ⟨_, _, unhide HZ6, hzs⟩)
      refine ret_whole Tryz.results45 rfl (setRow_heap _ _ _ _ _ _ (unhide HZ6)) Tryz.underlying128 rfl (by rw [gN.1]; exact infoRs) rfl ⟨rfl, below_setRow (unhide HQ2).below (by omega) _⟩

end Go.Proofs.YtgpojbgjfibblabGreat.texts
