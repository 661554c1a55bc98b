/-
  The walks of the program's states (package state) and of what a reference can tell (sender.needs).
  Conditions stand in each theorem.
-/
import Derived.Test.YtgpojbgjfibblabGreatJoinSendModel
import Derived.Test.YtgpojbgjfibblabGreatJoinBookLooks
import Derived.Deep.MidRow
namespace Go.Proofs.YtgpojbgjfibblabGreat.texts
open Go.RowKit
set_option linter.unusedVariables false
attribute [local go_sem ↓] Go.wp_at_zero Go.wp_at_succ

set_option maxRecDepth 100000 in
set_option maxHeartbeats 1000000 in
theorem way_any (a b : Nat) (w : World) (ha : a < 65536) (hb : b < 65536) :
    Calls Tryz.prog 100 #[.int .u16 a, .int .u16 b] w fun e w' => e = .returned (.int .u32 (a * b : Nat)) ∧ w' = w := by
  have h := way_lt ha hb
  go_enter Tryz.func100, Tryz.ntmps100
  go_wp2
  go_ret
  refine ⟨ret_int ?_, rfl⟩
  rw [← Int.natCast_mul]

set_option maxRecDepth 100000 in
set_option maxHeartbeats 1000000 in
theorem time_any (s : St) (w : World) (hs : s.ok) :
    Calls Tryz.prog 101 #[.agg s.cells] w fun e w' => e = .returned (.int .u32 (timeN s : Nat)) ∧ Below w.heap.size w w' := by
  obtain ⟨h1, h2, h3, h4, h5⟩ := hs
  have h := way_lt h2 h1
  unfold St.cells
  go_enter Tryz.func101, Tryz.ntmps101
  go_wp2_with fail
  go_quiet ((go_at_call 100; exact Calls.quiet_of_same (way_any _ _ _ (by omega) (by omega))))
  all_goals go_wp2
  go_ret
  exact ⟨ret_int (by simp [timeN]), below_drewN ((Below.refl _ _).alloc (Nat.le_refl _) _) _⟩

theorem off_wrap {a b : Nat} (ha : a < 65536) (hb : b < 65536) : IntKind.u16.wrap ((a : Int) - b) = (((a + 65536 - b) % 65536 : Nat) : Int) := by
  rw [IntKind.wrap_u16]; omega
theorem lag_wrap {t x s : Nat} (ht : t < 4294967296) (hx : x * s < 4294967296) : IntKind.u32.wrap ((t : Int) - x * s) = (((t + 4294967296 - x * s) % 4294967296 : Nat) : Int) := by
  rw [IntKind.wrap_u32, ← Int.natCast_mul]
  generalize x * s = y at *
  omega

set_option maxRecDepth 100000 in
set_option maxHeartbeats 1000000 in
theorem of_any (p : Pk) (stride : Nat) (w : World) (hp : p.ok) (hs : stride < 65536) :
    Calls Tryz.prog 70 #[.agg p.cells, .int .u16 stride] w fun e w' => e = .returned (.agg (stateN p stride).cells) ∧ Below w.heap.size w w' := by
  obtain ⟨h1, h2, h3, h4, h5, h6, h7⟩ := hp
  have h := way_lt hs h4
  unfold Pk.cells
  go_enter Tryz.func70, Tryz.ntmps70
  go_wp2_with fail
  go_region_held3 (fun w' => w'.cell? ⟨w.heap.size, 3, none⟩ = some (.int .u16 p.seq) ∧ w'.cell? ⟨w.heap.size, 4, none⟩ = some (.int .u32 p.time) ∧ w'.cell? ⟨w.heap.size, 5, none⟩ = some (.int .u16 p.id) ∧ w'.cell? ⟨w.heap.size, 6, none⟩ = some (.int .u8 p.flags))
    ((first | (refine ⟨by simp, by simp, by simp, by simp⟩) | (go_keep; done)))
    ((go_at_call 100; refine (way_any _ _ _ (by omega) (by omega)).mono ?_; rintro e w' ⟨rfl, rfl⟩))
  all_goals go_split_ands
  all_goals go_wp2
  exact bodyPost_ret (v := .agg (stateN p stride).cells) (by simp [results, Tryz.results70, go_sem, St.cells, stateN, off_wrap h6 h4, lag_wrap h5 h]) rfl ⟨rfl, (((Below.refl _ _).alloc (Nat.le_refl _) _).alloc (by simp) _).drew⟩

set_option maxRecDepth 100000 in
set_option maxHeartbeats 1000000 in
theorem seqIn_any (k : Int) (n r : St) (w : World) (hn : n.ok) (hr : r.ok) :
    Calls Tryz.prog 131 #[.int .i64 k, .agg n.cells, .agg r.cells] w fun e w' => e = .returned (.bool (bits.fitR 16 n.seq r.seq k 1)) ∧ Below w.heap.size w w' := by
  obtain ⟨h1, h2, h3, h4, h5⟩ := hn
  obtain ⟨g1, g2, g3, g4, g5⟩ := hr
  unfold St.cells
  go_enter Tryz.func131, Tryz.ntmps131
  go_wp2_with (go_at_call 140; refine (bits.fits16_in _ _ _ _ _ (by omega) (by omega) (by omega) (by omega) (by omega) (by omega)).mono ?_; rintro e w' ⟨rfl, rfl⟩)
  go_ret
  exact ⟨rfl, ((Below.refl _ _).alloc (Nat.le_refl _) _).alloc (by simp) _⟩

set_option maxRecDepth 100000 in
set_option maxHeartbeats 1000000 in
theorem restIn8_any (n r : St) (w : World) (hn : n.ok) (hr : r.ok) :
    Calls Tryz.prog 132 #[.agg n.cells, .agg r.cells] w fun e w' => e = .returned (.bool (bits.fitR 16 n.offset r.offset 8 128 && bits.fitR 32 n.lag r.lag 8 128)) ∧ Below w.heap.size w w' := by
  obtain ⟨h1, h2, h3, h4, h5⟩ := hn
  obtain ⟨g1, g2, g3, g4, g5⟩ := hr
  unfold St.cells
  go_enter Tryz.func132, Tryz.ntmps132
  go_wp2_with (first | (go_at_call 140; refine (bits.fits16_in _ _ _ _ _ (by omega) (by omega) (by omega) (by omega) (by omega) (by omega)).mono ?_; rintro e w' ⟨rfl, rfl⟩) | (go_at_call 141; refine (bits.fits32_in _ _ _ _ _ (by omega) (by omega) (by omega) (by omega) (by omega) (by omega)).mono ?_; rintro e w' ⟨rfl, rfl⟩))
  all_goals go_ret
  all_goals exact ⟨by simp [*], ((Below.refl _ _).alloc (Nat.le_refl _) _).alloc (by simp) _⟩


/-- a state's cells in a block of its own -/
theorem st_cells {w : World} {g : Nat} {s : St} {t : TypeId} (h : w.heap[g]? = some (.cells s.cells t (0, 0))) :
    w.cell? ⟨g, 0, none⟩ = some (.int .u16 s.seq) ∧ w.cell? ⟨g, 1, none⟩ = some (.int .u16 s.stride) ∧ w.cell? ⟨g, 2, none⟩ = some (.int .u16 s.offset) ∧ w.cell? ⟨g, 3, none⟩ = some (.int .u32 s.lag) ∧ w.cell? ⟨g, 4, none⟩ = some (.int .u8 s.flags) := by
  refine ⟨?_, ?_, ?_, ?_, ?_⟩ <;> (rw [block_cell h]; rfl)
/-- two states lie in the two blocks that came first; nothing below has changed -/
structure TwoSt (w : World) (n r : St) (w1 : World) : Prop where
  one : w1.heap[w.heap.size]? = some (.cells n.cells 72 (0, 0))
  two : w1.heap[w.heap.size + 1]? = some (.cells r.cells 72 (0, 0))
  below : Below w.heap.size w w1
theorem TwoSt.start (w : World) (n r : St) : TwoSt w n r ((w.alloc (.cells n.cells 72)).alloc (.cells r.cells 72)) :=
  ⟨block_alloc (heap_alloc_new w _) _, by have := heap_alloc_new (w.alloc (.cells n.cells 72)) (.cells r.cells 72); simpa using this, ((Below.refl _ _).alloc (Nat.le_refl _) _).alloc (by simp) _⟩
theorem TwoSt.call {w w1 w2 : World} {n r : St} (h : TwoSt w n r w1) (hb : Below w1.heap.size w1 w2) : TwoSt w n r w2 :=
  ⟨block_keep h.one hb, block_keep h.two hb, keep_below h.below hb (Nat.le_of_lt (block_lt h.one))⟩

set_option maxRecDepth 100000 in
set_option maxHeartbeats 2000000 in
theorem needs_any (n r : St) (w : World) (hn : n.ok) (hr : r.ok) :
    Calls Tryz.prog 119 #[.agg n.cells, .agg r.cells] w fun e w' => e = .returned (.int .u8 (needsN n r : Nat)) ∧ Below w.heap.size w w' := by
  have Hn := hide hn
  have Hr := hide hr
  clear hn hr
  obtain ⟨k, hk⟩ : ∃ k, needsN n r = k := ⟨_, rfl⟩
  rw [hk]
  obtain ⟨q, s, o, l, f⟩ := n
  obtain ⟨q2, s2, o2, l2, f2⟩ := r
  have HS := hide (TwoSt.start w ⟨q, s, o, l, f⟩ ⟨q2, s2, o2, l2, f2⟩)
  simp only [needsN] at hk
  simp only [St.cells]
  by_cases c1 : s = s2
  · subst c1
    by_cases c2 : f = f2
    · subst c2
      rw [if_pos ⟨rfl, rfl⟩] at hk
      have HK := hide hk
      clear hk
      by_cases c3 : o = o2
      · subst c3
        by_cases c4 : l = l2
        · subst c4
          go_enter Tryz.func119, Tryz.ntmps119
          go_wp2_with (first | (go_at_call 131; refine (seqIn_any _ ⟨q, s, o, l, f⟩ ⟨q2, s, o, l, f⟩ _ (unhide Hn) (unhide Hr)).mono ?_; rintro e w1 ⟨rfl, hb⟩; have K := (unhide HS).call hb; clear HS; obtain ⟨a0, a1, a2, a3, a4⟩ := st_cells K.one; obtain ⟨b0, b1, b2, b3, b4⟩ := st_cells K.two; have HS := hide K; clear hb K) | (go_at_call 132; refine (restIn8_any ⟨q, s, o, l, f⟩ ⟨q2, s, o, l, f⟩ _ (unhide Hn) (unhide Hr)).mono ?_; rintro e w1 ⟨rfl, hb⟩; have K := (unhide HS).call hb; clear HS; have HS := hide K; clear hb K))
          all_goals go_ret
          all_goals refine ⟨ret_int ?_, (unhide HS).below⟩
          all_goals (first | (have HK := unhide HK; simp [*] at HK; omega) | (have HK := unhide HK; split at HK <;> (try split at HK) <;> (first | omega | simp_all) <;> omega))
        · go_enter Tryz.func119, Tryz.ntmps119
          go_wp2_with (first | (go_at_call 131; refine (seqIn_any _ ⟨q, s, o, l, f⟩ ⟨q2, s, o, l2, f⟩ _ (unhide Hn) (unhide Hr)).mono ?_; rintro e w1 ⟨rfl, hb⟩; have K := (unhide HS).call hb; clear HS; obtain ⟨a0, a1, a2, a3, a4⟩ := st_cells K.one; obtain ⟨b0, b1, b2, b3, b4⟩ := st_cells K.two; have HS := hide K; clear hb K) | (go_at_call 132; refine (restIn8_any ⟨q, s, o, l, f⟩ ⟨q2, s, o, l2, f⟩ _ (unhide Hn) (unhide Hr)).mono ?_; rintro e w1 ⟨rfl, hb⟩; have K := (unhide HS).call hb; clear HS; have HS := hide K; clear hb K))
          all_goals go_ret
          all_goals refine ⟨ret_int ?_, (unhide HS).below⟩
          all_goals (first | (have HK := unhide HK; simp [*] at HK; omega) | (have HK := unhide HK; split at HK <;> (try split at HK) <;> (first | omega | simp_all) <;> omega))
      · go_enter Tryz.func119, Tryz.ntmps119
        go_wp2_with (first | (go_at_call 131; refine (seqIn_any _ ⟨q, s, o, l, f⟩ ⟨q2, s, o2, l2, f⟩ _ (unhide Hn) (unhide Hr)).mono ?_; rintro e w1 ⟨rfl, hb⟩; have K := (unhide HS).call hb; clear HS; obtain ⟨a0, a1, a2, a3, a4⟩ := st_cells K.one; obtain ⟨b0, b1, b2, b3, b4⟩ := st_cells K.two; have HS := hide K; clear hb K) | (go_at_call 132; refine (restIn8_any ⟨q, s, o, l, f⟩ ⟨q2, s, o2, l2, f⟩ _ (unhide Hn) (unhide Hr)).mono ?_; rintro e w1 ⟨rfl, hb⟩; have K := (unhide HS).call hb; clear HS; have HS := hide K; clear hb K))
        all_goals go_ret
        all_goals refine ⟨ret_int ?_, (unhide HS).below⟩
        all_goals (first | (have HK := unhide HK; simp [*] at HK; omega) | (have HK := unhide HK; split at HK <;> (try split at HK) <;> (first | omega | simp_all) <;> omega))
    · rw [if_neg (fun h => c2 h.2)] at hk
      subst hk
      go_enter Tryz.func119, Tryz.ntmps119
      go_wp2
      go_ret
      exact ⟨rfl, (unhide HS).below⟩
  · rw [if_neg (fun h => c1 h.1)] at hk
    subst hk
    go_enter Tryz.func119, Tryz.ntmps119
    go_wp2
    go_ret
    exact ⟨rfl, (unhide HS).below⟩

end Go.Proofs.YtgpojbgjfibblabGreat.texts
