/-
  The walk of the program's contexts (package sender): sent.
  Conditions stand in each theorem.
-/
import Derived.Test.YtgpojbgjfibblabGreatCtxAdd
namespace Go.Proofs.YtgpojbgjfibblabGreat.texts
open Go.RowKit
set_option linter.unusedVariables false
attribute [local go_sem ↓] Go.wp_at_zero Go.wp_at_succ

set_option maxRecDepth 100000 in
set_option maxHeartbeats 2000000 in
theorem csent_any (c : Cx) (kind : Nat) (n : St) (keep : Nat) (w : World) (hc : c.ok) (hn : n.ok) (hkd : kind ≤ 3) (h2 : c.age + 1 < 4611686018427387904) :
    Calls Tryz.prog 74 #[.agg c.cells, .int .u8 kind, .agg n.cells, .int .i64 keep] w fun e w' => e = .returned (.agg (sentN c kind n keep).cells) ∧ Below w.heap.size w w' := by
  have hw := hc.whole
  have hf := hc.full
  obtain ⟨Z, hZ⟩ : ∃ Z : Array Value, Z = Cx.cells ⟨0, 0, 0, 0, 0, 0, 0, 0, 0, St.zero, St.zero, St.zero, St.zero, 0⟩ := ⟨_, rfl⟩
  have HZ := hide hZ
  have zv : ∀ w, (zeroValue 75).run Tryz.prog w = .ok (.agg Z) w := by rw [hZ]; intro w; exact Tryz.zeroValue75 w
  clear hZ
  obtain ⟨C, hC⟩ : ∃ C, C = c.cells := ⟨_, rfl⟩
  obtain ⟨N, hN⟩ : ∃ N, N = n.cells := ⟨_, rfl⟩
  have e4 : C[4]? = some (.int .i64 c.count) := by rw [hC]; rfl
  have e5 : C[5]? = some (.int .i64 c.rank) := by rw [hC]; rfl
  have e6 : C[6]? = some (.int .i64 c.whole) := by rw [hC]; rfl
  have e7 : C[7]? = some (.int .i64 c.full) := by rw [hC]; rfl
  have e8 : C[8]? = some (.int .i64 c.age) := by rw [hC]; rfl
  have r8 : ∀ x y v : Value, (((C.setIfInBounds 4 x).setIfInBounds 5 y).setIfInBounds 8 v)[8]? = some v := by
    intro x y v
    rw [Array.getElem?_setIfInBounds_self_of_lt]
    rw [hC]
    simp [Cx.cells]
  rw [← hC, ← hN]
  have HC := hide hC
  have HN := hide hN
  have HO := hide hc
  have HNO := hide hn
  clear hC hN hc hn
  obtain k3 | k2 | ⟨k3, k2⟩ : kind = 3 ∨ kind = 2 ∨ (¬ kind = 3 ∧ ¬ kind = 2) := by omega
  · subst k3
    go_enter Tryz.func74, Tryz.ntmps74
    go_wp2_with (first | (refine stop_load (ty := 75) ?_) | (go_at_call 103; refine (oneLess_any _ _ (by omega)).mono ?_; rintro e w' ⟨rfl, rfl⟩))
    refine ⟨?_⟩
    obtain ⟨D, hD⟩ : ∃ D : Cx, D = ⟨c.src, c.dst, c.port, c.turn, wrap64 (c.count + 1), 0, c.whole - 1, c.full, 0, c.s0, c.s1, c.s2, c.s3, c.kept⟩ := ⟨_, rfl⟩
    have hE : ((((C.setIfInBounds 4 (Value.int IntKind.i64 (wrap64 (c.count + 1)))).setIfInBounds 5 (Value.int IntKind.i64 0)).setIfInBounds 8 (Value.int IntKind.i64 0)).setIfInBounds 6 (Value.int IntKind.i64 ↑(c.whole - 1))) = D.cells := by rw [hD, unhide HC]; rfl
    rw [hE]
    have hS : sentN c 3 n keep = addN D n keep := by rw [hD]; simp [sentN]
    have hDo : D.ok := by
      rw [hD]
      have o := unhide HO
      exact ⟨o.src, o.dst, o.port, o.turn, trivial, by simp only; omega, by simp only; omega, by simp only; omega, by simp only; omega, o.s0, o.s1, o.s2, o.s3, o.kept⟩
    have K := InAdd.start w D.cells N Z
    generalize ((w.alloc (.cells D.cells 75)).alloc (.cells N 72)).alloc (.cells Z 75) = w2 at K ⊢
    have HK := hide K
    have HS := hide hS
    have HDO := hide hDo
    clear K hS hDo hD hE r8 e4 e5 e6 e7 e8
    refine load_whole (ty := 75) (cs := D.cells) rfl (unhide HK).one Tryz.underlying75 rfl infoCx ?_
    go_wp2_with (first
      | (refine load_whole (ty := 72) rfl (unhide HK).two Tryz.underlying72 rfl (by rw [unhide HN]; exact infoSt) ?_)
      | (go_at_call 104; rw [unhide HN]; refine (cadd_any D n keep _ (unhide HDO)).mono ?_; rintro e w3 ⟨rfl, hb⟩; have HB := hide hb; clear hb)
      | (refine store_whole (ty := 75) (cells := (addN D n keep).cells) rfl rfl (block_keep (unhide HK).three (unhide HB)) infoCx (by rw [unhide HZ]; rfl) (Cx.cells_one _) ?_))
    refine ret_whole Tryz.results74 rfl (setRow_heap _ _ _ _ _ _ (block_keep (unhide HK).three (unhide HB))) Tryz.underlying75 rfl infoCx rfl ⟨by rw [unhide HS], below_setRow (keep_below (unhide HK).below (unhide HB) (Nat.le_of_lt (block_lt (unhide HK).one))) (by omega) _⟩
  · subst k2
    go_enter Tryz.func74, Tryz.ntmps74
    go_wp2_with (first | (refine stop_load (ty := 75) ?_) | (go_at_call 103; refine (oneLess_any _ _ (by omega)).mono ?_; rintro e w' ⟨rfl, rfl⟩))
    refine ⟨?_⟩
    obtain ⟨D, hD⟩ : ∃ D : Cx, D = ⟨c.src, c.dst, c.port, c.turn, wrap64 (c.count + 1), 0, c.whole, c.full - 1, c.age + 1, c.s0, c.s1, c.s2, c.s3, c.kept⟩ := ⟨_, rfl⟩
    have hE : ((((C.setIfInBounds 4 (Value.int IntKind.i64 (wrap64 (c.count + 1)))).setIfInBounds 5 (Value.int IntKind.i64 0)).setIfInBounds 8 (Value.int IntKind.i64 (↑c.age + 1))).setIfInBounds 7 (Value.int IntKind.i64 ↑(c.full - 1))) = D.cells := by rw [hD, unhide HC]; rfl
    rw [hE]
    have hS : sentN c 2 n keep = addN D n keep := by rw [hD]; simp [sentN]
    have hDo : D.ok := by
      rw [hD]
      have o := unhide HO
      exact ⟨o.src, o.dst, o.port, o.turn, trivial, by simp only; omega, by simp only; omega, by simp only; omega, by simp only; omega, o.s0, o.s1, o.s2, o.s3, o.kept⟩
    have K := InAdd.start w D.cells N Z
    generalize ((w.alloc (.cells D.cells 75)).alloc (.cells N 72)).alloc (.cells Z 75) = w2 at K ⊢
    have HK := hide K
    have HS := hide hS
    have HDO := hide hDo
    clear K hS hDo hD hE r8 e4 e5 e6 e7 e8
    refine load_whole (ty := 75) (cs := D.cells) rfl (unhide HK).one Tryz.underlying75 rfl infoCx ?_
    go_wp2_with (first
      | (refine load_whole (ty := 72) rfl (unhide HK).two Tryz.underlying72 rfl (by rw [unhide HN]; exact infoSt) ?_)
      | (go_at_call 104; rw [unhide HN]; refine (cadd_any D n keep _ (unhide HDO)).mono ?_; rintro e w3 ⟨rfl, hb⟩; have HB := hide hb; clear hb)
      | (refine store_whole (ty := 75) (cells := (addN D n keep).cells) rfl rfl (block_keep (unhide HK).three (unhide HB)) infoCx (by rw [unhide HZ]; rfl) (Cx.cells_one _) ?_))
    refine ret_whole Tryz.results74 rfl (setRow_heap _ _ _ _ _ _ (block_keep (unhide HK).three (unhide HB))) Tryz.underlying75 rfl infoCx rfl ⟨by rw [unhide HS], below_setRow (keep_below (unhide HK).below (unhide HB) (Nat.le_of_lt (block_lt (unhide HK).one))) (by omega) _⟩
  · go_enter Tryz.func74, Tryz.ntmps74
    go_wp2_with (first | (refine stop_load (ty := 75) ?_) | (go_at_call 103; refine (oneLess_any _ _ (by omega)).mono ?_; rintro e w' ⟨rfl, rfl⟩))
    refine ⟨?_⟩
    obtain ⟨D, hD⟩ : ∃ D : Cx, D = ⟨c.src, c.dst, c.port, c.turn, wrap64 (c.count + 1), 0, c.whole, c.full, c.age + 1, c.s0, c.s1, c.s2, c.s3, c.kept⟩ := ⟨_, rfl⟩
    have hE : (((C.setIfInBounds 4 (Value.int IntKind.i64 (wrap64 (c.count + 1)))).setIfInBounds 5 (Value.int IntKind.i64 0)).setIfInBounds 8 (Value.int IntKind.i64 (↑c.age + 1))) = D.cells := by rw [hD, unhide HC]; rfl
    rw [hE]
    have hS : sentN c kind n keep = addN D n keep := by rw [hD]; simp [sentN, k3, k2]
    have hDo : D.ok := by
      rw [hD]
      have o := unhide HO
      exact ⟨o.src, o.dst, o.port, o.turn, trivial, by simp only; omega, by simp only; omega, by simp only; omega, by simp only; omega, o.s0, o.s1, o.s2, o.s3, o.kept⟩
    have K := InAdd.start w D.cells N Z
    generalize ((w.alloc (.cells D.cells 75)).alloc (.cells N 72)).alloc (.cells Z 75) = w2 at K ⊢
    have HK := hide K
    have HS := hide hS
    have HDO := hide hDo
    clear K hS hDo hD hE r8 e4 e5 e6 e7 e8
    refine load_whole (ty := 75) (cs := D.cells) rfl (unhide HK).one Tryz.underlying75 rfl infoCx ?_
    go_wp2_with (first
      | (refine load_whole (ty := 72) rfl (unhide HK).two Tryz.underlying72 rfl (by rw [unhide HN]; exact infoSt) ?_)
      | (go_at_call 104; rw [unhide HN]; refine (cadd_any D n keep _ (unhide HDO)).mono ?_; rintro e w3 ⟨rfl, hb⟩; have HB := hide hb; clear hb)
      | (refine store_whole (ty := 75) (cells := (addN D n keep).cells) rfl rfl (block_keep (unhide HK).three (unhide HB)) infoCx (by rw [unhide HZ]; rfl) (Cx.cells_one _) ?_))
    refine ret_whole Tryz.results74 rfl (setRow_heap _ _ _ _ _ _ (block_keep (unhide HK).three (unhide HB))) Tryz.underlying75 rfl infoCx rfl ⟨by rw [unhide HS], below_setRow (keep_below (unhide HK).below (unhide HB) (Nat.le_of_lt (block_lt (unhide HK).one))) (by omega) _⟩

end Go.Proofs.YtgpojbgjfibblabGreat.texts
