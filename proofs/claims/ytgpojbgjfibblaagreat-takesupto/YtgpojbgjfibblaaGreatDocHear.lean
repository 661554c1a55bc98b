/-
  The walks of the document's New and Hear.
  Conditions stand in each theorem.
-/
import Derived.Test.YtgpojbgjfibblaaGreatDocWalk
namespace Go.Proofs.YtgpojbgjfibblaaGreat.texts
open Go.RowKit
set_option linter.unusedVariables false
attribute [local go_sem ↓] Go.wp_at_zero Go.wp_at_succ
attribute [local go_sem] bs_size bs_extract bs_list

/-- one cell of a context is stored -/
theorem rcflat_put (l : List Rc) : ∀ (i j : Nat) (v : Value) (x : Rc), i < l.length → j < 13 → x.cells.toList = (l.getD i Rc.blank).cells.toList.set j v → (l.flatMap (fun c => c.cells.toList)).set (13 * i + j) v = (l.set i x).flatMap (fun c => c.cells.toList) := by
  induction l with
  | nil => intro i j v x h; simp at h
  | cons c l ih =>
    intro i j v x h hj hx
    have hc : c.cells.toList.length = 13 := rfl
    cases i with
    | zero =>
      rw [List.flatMap_cons, List.set_append_left _ _ (by omega), List.set_cons_zero, List.flatMap_cons, hx]
      simp
    | succ i =>
      rw [List.flatMap_cons, List.set_append_right _ _ (by omega), List.set_cons_succ, List.flatMap_cons, hc, show 13 * (i + 1) + j - 13 = 13 * i + j by omega]
      rw [ih i j v x (by simpa using h) hj (by simpa using hx)]
theorem Doc.put (d : Doc) (i j : Nat) (v : Value) (x : Rc) (hi : i < d.cs.length) (hj : j < 13) (hx : x.cells.toList = (d.at_ i).cells.toList.set j v) : d.row.toArray.setIfInBounds (i * 13 + j) v = (d.set i x).row.toArray := by
  rw [List.setIfInBounds_toArray, Nat.mul_comm]
  congr 1
  exact rcflat_put d.cs i j v x hi hj hx

def NewPost (w : World) (c k r : Nat) (e : Ending) (w' : World) : Prop := ∃ g gl, e = .returned (.tuple #[.pointer (some ⟨g, 0, none⟩), .int .i64 0]) ∧ w.heap.size ≤ g ∧ w.heap.size ≤ gl ∧ g ≠ gl ∧ DocAt w' g gl (docFresh c k r) ∧ Below w.heap.size w w'

theorem dmake1 (w : World) : (Instr.makeSlice 84 (.int .i64 1) (.int .i64 1)).run Tryz.prog w = .ok (.slice (some ⟨w.heap.size, 0, none⟩) 1 1) (w.alloc (.cells (docFresh 1 0 0).row.toArray 109)) := by kernel_rfl
theorem dmake2 (w : World) : (Instr.makeSlice 84 (.int .i64 2) (.int .i64 2)).run Tryz.prog w = .ok (.slice (some ⟨w.heap.size, 0, none⟩) 2 2) (w.alloc (.cells (docFresh 2 0 0).row.toArray 109)) := by kernel_rfl
theorem dmake3 (w : World) : (Instr.makeSlice 84 (.int .i64 3) (.int .i64 3)).run Tryz.prog w = .ok (.slice (some ⟨w.heap.size, 0, none⟩) 3 3) (w.alloc (.cells (docFresh 3 0 0).row.toArray 109)) := by kernel_rfl
theorem dmake4 (w : World) : (Instr.makeSlice 84 (.int .i64 4) (.int .i64 4)).run Tryz.prog w = .ok (.slice (some ⟨w.heap.size, 0, none⟩) 4 4) (w.alloc (.cells (docFresh 4 0 0).row.toArray 109)) := by kernel_rfl
theorem dmake5 (w : World) : (Instr.makeSlice 84 (.int .i64 5) (.int .i64 5)).run Tryz.prog w = .ok (.slice (some ⟨w.heap.size, 0, none⟩) 5 5) (w.alloc (.cells (docFresh 5 0 0).row.toArray 109)) := by kernel_rfl
theorem dmake6 (w : World) : (Instr.makeSlice 84 (.int .i64 6) (.int .i64 6)).run Tryz.prog w = .ok (.slice (some ⟨w.heap.size, 0, none⟩) 6 6) (w.alloc (.cells (docFresh 6 0 0).row.toArray 109)) := by kernel_rfl
theorem dmake7 (w : World) : (Instr.makeSlice 84 (.int .i64 7) (.int .i64 7)).run Tryz.prog w = .ok (.slice (some ⟨w.heap.size, 0, none⟩) 7 7) (w.alloc (.cells (docFresh 7 0 0).row.toArray 109)) := by kernel_rfl
theorem dmake8 (w : World) : (Instr.makeSlice 84 (.int .i64 8) (.int .i64 8)).run Tryz.prog w = .ok (.slice (some ⟨w.heap.size, 0, none⟩) 8 8) (w.alloc (.cells (docFresh 8 0 0).row.toArray 109)) := by kernel_rfl
theorem dmake {c : Nat} (h1 : 1 ≤ c) (h2 : c ≤ 8) (w : World) : (Instr.makeSlice 84 (.int .i64 (c : Nat)) (.int .i64 (c : Nat))).run Tryz.prog w = .ok (.slice (some ⟨w.heap.size, 0, none⟩) c c) (w.alloc (.cells (docFresh c 0 0).row.toArray 109)) := by
  have hc : c = 1 ∨ c = 2 ∨ c = 3 ∨ c = 4 ∨ c = 5 ∨ c = 6 ∨ c = 7 ∨ c = 8 := by omega
  rcases hc with rfl | rfl | rfl | rfl | rfl | rfl | rfl | rfl
  · exact dmake1 w
  · exact dmake2 w
  · exact dmake3 w
  · exact dmake4 w
  · exact dmake5 w
  · exact dmake6 w
  · exact dmake7 w
  · exact dmake8 w

set_option maxRecDepth 100000 in
set_option maxHeartbeats 8000000 in
theorem dnew_yes (c k r : Nat) (w : World) (h1 : 1 ≤ c) (h2 : c ≤ 8) (h3 : 1 ≤ k) (h4 : k ≤ 4) (h5 : 2 ≤ r) (h6 : r ≤ 100) :
    Calls Tryz.prog 12 #[.agg #[.int .i64 c, .int .i64 k, .int .i64 r]] w fun e w' => NewPost w c k r e w' := by
  have a1 : ¬ ((c : Int) < 1) := by omega
  have a2 : ¬ ((8 : Int) < (c : Int)) := by omega
  have a3 : ¬ ((k : Int) < 1) := by omega
  have a4 : ¬ ((4 : Int) < (k : Int)) := by omega
  have a5 : ¬ ((r : Int) < 2) := by omega
  have a6 : ¬ ((100 : Int) < (r : Int)) := by omega
  have hmk := fun w => dmake h1 h2 w
  obtain ⟨Z, hZ⟩ : ∃ Z, Z = (docFresh c 0 0).row.toArray := ⟨_, rfl⟩
  rw [← hZ] at hmk
  have HZ := hide hZ
  clear h1 h2 hZ
  go_enter Tryz.func12, Tryz.ntmps12
  go_wp2_with fail
  go_region
  all_goals go_wp2_with fail
  all_goals go_ret2
  all_goals
    have hlen : (docFresh c k r).cs.length = c := by simp [docFresh]
    refine ⟨w.heap.size + 1 + 1, w.heap.size + 1, rfl, by omega, by omega, by omega, ⟨?_, ?_, ?_⟩, ?_⟩
    · rw [hlen]
      exact third_alloc w _ _ _
    · have e : (docFresh c k r).row.toArray = Z := by rw [unhide HZ]; rfl
      rw [e]
      exact second_alloc w _ _ _
    · intro i hi
      rw [docFresh_at]
      exact ⟨none, 0, 0, rfl⟩
    · exact ((((Below.refl _ _).alloc (Nat.le_refl _) _).alloc (by simp) _).alloc (by simp; omega) _).drew

/-- the document's Hear -/
theorem docHear_len {d : Doc} {l : List UInt8} (h : l.length ≠ 2) : docHearE d l = 7 ∧ docHearM d l = d := by
  match l, h with
  | [], _ => exact ⟨rfl, rfl⟩
  | [_], _ => exact ⟨rfl, rfl⟩
  | [_, _], h => exact absurd rfl h
  | _ :: _ :: _ :: _, _ => exact ⟨rfl, rfl⟩

theorem two_of {l : List UInt8} (h : l.length = 2) : ∃ x y, l = [x, y] := by
  match l, h with
  | [x, y], _ => exact ⟨x, y, rfl⟩

set_option maxRecDepth 100000 in
set_option maxHeartbeats 8000000 in
theorem dhear_any (d : Doc) (g gl : Nat) (l : List UInt8) (w : World) (h : DocAt w g gl d) (hne : g ≠ gl) (hl : l.length ≤ maxLen) (hk4 : d.keep ≤ 4) :
    Calls Tryz.prog 30 #[.pointer (some ⟨g, 0, none⟩), .string (bs l)] w fun e w' => e = .returned (.int .i64 (docHearE d l : Nat)) ∧ DocAt w' g gl (docHearM d l) ∧ Only (· = gl) w w' := by
  have HD := hide h
  have hlI : (l.length : Int) ≤ 9223372036854775807 := by unfold maxLen at hl; omega
  by_cases h2 : l.length = 2
  · obtain ⟨x, y, rfl⟩ : ∃ x y, l = [x, y] := two_of h2
    obtain ⟨n, hn⟩ : ∃ n, n = d.cs.length := ⟨_, rfl⟩
    have hd3 : w.cell? ⟨g, 3, none⟩ = some (.slice (some ⟨gl, 0, none⟩) n n) := by rw [hn]; exact block_cell h.head 3
    have hd1 : w.cell? ⟨g, 1, none⟩ = some (.int .i64 d.keep) := block_cell h.head 1
    have h00 : 1 < (bs [x, y]).size := by rw [bs_size]; simp
    have hby : ((bs [x, y])[1]'h00).toNat = y.toNat := rfl
    obtain ⟨i, hi⟩ : ∃ i, i = y.toNat := ⟨_, rfl⟩
    rw [← hi] at hby
    have hi256 : i < 256 := by rw [hi]; exact UInt8.toNat_lt y
    have hS : ((bs [x]).toList == [83]) = decide (x.toNat = 83) := by
      rw [bs_toList]
      by_cases e : x.toNat = 83
      · rw [decide_eq_true e, beq_iff_eq, show x = 83 from UInt8.toNat.inj e]
      · rw [decide_eq_false e, beq_eq_false_iff_ne]
        intro e2
        simp at e2
        exact e (by rw [e2]; rfl)
    have hT : ((bs [x]).toList == [68]) = decide (x.toNat = 68) := by
      rw [bs_toList]
      by_cases e : x.toNat = 68
      · rw [decide_eq_true e, beq_iff_eq, show x = 68 from UInt8.toNat.inj e]
      · rw [decide_eq_false e, beq_eq_false_iff_ne]
        intro e2
        simp at e2
        exact e (by rw [e2]; rfl)
    by_cases hin : i < n
    · obtain ⟨c, hc⟩ : ∃ c, d.at_ i = c := ⟨_, rfl⟩
      have c0 := (h.cells (by omega) hc).1
      have hinI : ¬ ((n : Int) ≤ (i : Int)) := by omega
      have hinD : decide ((n : Int) ≤ (i : Int)) = false := decide_eq_false hinI
      have hi0 : (0 : Int) ≤ (i : Int) := by omega
      have hiI : (i : Int) < (n : Int) := by omega
      have Hc := hide hc
      cases hh : c.has with
      | false =>
        rw [hh] at c0
        have he : docHearE d [x, y] = 7 := by
          show (if y.toNat < d.cs.length ∧ (d.at_ y.toNat).has = true ∧ (x.toNat = 83 ∨ x.toNat = 68) then 0 else 7) = 7
          rw [if_neg (by rw [← hi, hc, hh]; simp)]
        have hm : docHearM d [x, y] = d := by
          show (if y.toNat < d.cs.length ∧ (d.at_ y.toNat).has = true then if x.toNat = 83 then d.set y.toNat { d.at_ y.toNat with whole := d.keep } else if x.toNat = 68 then d.set y.toNat { d.at_ y.toNat with full := d.keep } else d else d) = d
          rw [if_neg (by rw [← hi, hc, hh]; simp)]
        rw [he, hm]
        clear h hn hi hc he hm
        go_enter Tryz.func30, Tryz.ntmps30
        go_wp2_with fail
        go_ret
        exact ⟨rfl, unhide HD, Only.refl _ _⟩
      | true =>
        rw [hh] at c0
        have Hn := hide hn
        have Hi := hide hi
        clear hc hn hi
        by_cases hx : x.toNat = 83
        · rw [decide_eq_true hx] at hS
          have g7 : w.cell? ⟨gl, i * 13 + 7, none⟩ = some (.int .i64 c.whole) := (h.cells (by rw [← unhide Hn]; exact hin) (unhide Hc)).2.2.2.2.2.2.2.1
          have g7d : w.drew.cell? ⟨gl, i * 13 + 7, none⟩ = some (.int .i64 c.whole) := g7
          have z7 := block_free h.rows (i * 13 + 7)
          have z7d : w.drew.frozen? ⟨gl, i * 13 + 7, none⟩ = false := z7
          have hd3d : w.drew.cell? ⟨g, 3, none⟩ = some (.slice (some ⟨gl, 0, none⟩) n n) := hd3
          have hd1d : w.drew.cell? ⟨g, 1, none⟩ = some (.int .i64 d.keep) := hd1
          clear h
          go_enter Tryz.func30, Tryz.ntmps30
          go_wp2_with fail
          go_region
          all_goals go_wp2_with fail
          all_goals go_ret
          all_goals
            have hD := unhide HD
            have hid : i < d.cs.length := by rw [← unhide Hn]; omega
            have he : docHearE d [x, y] = 0 := by
              show (if y.toNat < d.cs.length ∧ (d.at_ y.toNat).has = true ∧ (x.toNat = 83 ∨ x.toNat = 68) then 0 else 7) = 0
              rw [← unhide Hi, if_pos ⟨hid, by rw [unhide Hc]; exact hh, by omega⟩]
            have hm : docHearM d [x, y] = d.set i { d.at_ i with whole := d.keep } := by
              show (if y.toNat < d.cs.length ∧ (d.at_ y.toNat).has = true then if x.toNat = 83 then d.set y.toNat { d.at_ y.toNat with whole := d.keep } else if x.toNat = 68 then d.set y.toNat { d.at_ y.toNat with full := d.keep } else d else d) = _
              rw [← unhide Hi, if_pos ⟨hid, by rw [unhide Hc]; exact hh⟩]
              rw [if_pos hx]
            rw [he, hm]
            refine ⟨rfl, ⟨?_, ?_, ?_⟩, (Only.setCell (S := (· = gl)) (p := ⟨gl, i * 13 + 7, none⟩) (Only.refl _ _) rfl _).drew⟩
            · have e : (d.set i { d.at_ i with whole := d.keep }).cs.length = d.cs.length := by simp [Doc.set]
              rw [e]
              exact block_set hD.head (by exact hne) _
            · have e := heap_setCell_same w gl (i * 13 + 7) _ _ (.int .i64 (d.keep : Int)) hD.rows
              rw [Doc.put d i 7 _ { d.at_ i with whole := d.keep } hid (by omega) rfl] at e
              exact e
            · intro j hj
              rw [Doc.set_at _ _ _ _ hid]
              split
              · exact hD.sl i hid
              · exact hD.sl j (by simpa [Doc.set] using hj)
        · rw [decide_eq_false hx] at hS
          by_cases hx2 : x.toNat = 68
          · rw [decide_eq_true hx2] at hT
            have g7 : w.cell? ⟨gl, i * 13 + 8, none⟩ = some (.int .i64 c.full) := (h.cells (by rw [← unhide Hn]; exact hin) (unhide Hc)).2.2.2.2.2.2.2.2.1
            have g7d : w.drew.cell? ⟨gl, i * 13 + 8, none⟩ = some (.int .i64 c.full) := g7
            have z7 := block_free h.rows (i * 13 + 8)
            have z7d : w.drew.frozen? ⟨gl, i * 13 + 8, none⟩ = false := z7
            have hd3d : w.drew.cell? ⟨g, 3, none⟩ = some (.slice (some ⟨gl, 0, none⟩) n n) := hd3
            have hd1d : w.drew.cell? ⟨g, 1, none⟩ = some (.int .i64 d.keep) := hd1
            clear h
            go_enter Tryz.func30, Tryz.ntmps30
            go_wp2_with fail
            go_region
            all_goals go_wp2_with fail
            all_goals go_ret
            all_goals
              have hD := unhide HD
              have hid : i < d.cs.length := by rw [← unhide Hn]; omega
              have he : docHearE d [x, y] = 0 := by
                show (if y.toNat < d.cs.length ∧ (d.at_ y.toNat).has = true ∧ (x.toNat = 83 ∨ x.toNat = 68) then 0 else 7) = 0
                rw [← unhide Hi, if_pos ⟨hid, by rw [unhide Hc]; exact hh, by omega⟩]
              have hm : docHearM d [x, y] = d.set i { d.at_ i with full := d.keep } := by
                show (if y.toNat < d.cs.length ∧ (d.at_ y.toNat).has = true then if x.toNat = 83 then d.set y.toNat { d.at_ y.toNat with whole := d.keep } else if x.toNat = 68 then d.set y.toNat { d.at_ y.toNat with full := d.keep } else d else d) = _
                rw [← unhide Hi, if_pos ⟨hid, by rw [unhide Hc]; exact hh⟩]
                rw [if_neg hx, if_pos hx2]
              rw [he, hm]
              refine ⟨rfl, ⟨?_, ?_, ?_⟩, (Only.setCell (S := (· = gl)) (p := ⟨gl, i * 13 + 8, none⟩) (Only.refl _ _) rfl _).drew⟩
              · have e : (d.set i { d.at_ i with full := d.keep }).cs.length = d.cs.length := by simp [Doc.set]
                rw [e]
                exact block_set hD.head (by exact hne) _
              · have e := heap_setCell_same w gl (i * 13 + 8) _ _ (.int .i64 (d.keep : Int)) hD.rows
                rw [Doc.put d i 8 _ { d.at_ i with full := d.keep } hid (by omega) rfl] at e
                exact e
              · intro j hj
                rw [Doc.set_at _ _ _ _ hid]
                split
                · exact hD.sl i hid
                · exact hD.sl j (by simpa [Doc.set] using hj)
          · rw [decide_eq_false hx2] at hT
            have he : docHearE d [x, y] = 7 := by
              show (if y.toNat < d.cs.length ∧ (d.at_ y.toNat).has = true ∧ (x.toNat = 83 ∨ x.toNat = 68) then 0 else 7) = 7
              rw [if_neg (by omega)]
            have hm : docHearM d [x, y] = d := by
              show (if y.toNat < d.cs.length ∧ (d.at_ y.toNat).has = true then if x.toNat = 83 then d.set y.toNat { d.at_ y.toNat with whole := d.keep } else if x.toNat = 68 then d.set y.toNat { d.at_ y.toNat with full := d.keep } else d else d) = d
              rw [if_neg hx, if_neg hx2]
              split <;> rfl
            rw [he, hm]
            clear h he hm
            go_enter Tryz.func30, Tryz.ntmps30
            go_wp2_with fail
            go_ret
            exact ⟨rfl, unhide HD, Only.refl _ _⟩
    · have hinI : (n : Int) ≤ (i : Int) := by omega
      have he : docHearE d [x, y] = 7 := by
        show (if y.toNat < d.cs.length ∧ (d.at_ y.toNat).has = true ∧ (x.toNat = 83 ∨ x.toNat = 68) then 0 else 7) = 7
        rw [if_neg (by omega)]
      have hm : docHearM d [x, y] = d := by
        show (if y.toNat < d.cs.length ∧ (d.at_ y.toNat).has = true then if x.toNat = 83 then d.set y.toNat { d.at_ y.toNat with whole := d.keep } else if x.toNat = 68 then d.set y.toNat { d.at_ y.toNat with full := d.keep } else d else d) = d
        rw [if_neg (by omega)]
      rw [he, hm]
      clear h hn hi he hm
      go_enter Tryz.func30, Tryz.ntmps30
      go_wp2_with fail
      go_ret
      exact ⟨rfl, unhide HD, Only.refl _ _⟩
  · obtain ⟨he, hm⟩ := docHear_len (d := d) h2
    rw [he, hm]
    have h2I : ¬ ((l.length : Int) = 2) := by omega
    clear h he hm
    go_enter Tryz.func30, Tryz.ntmps30
    go_wp2_with fail
    go_ret
    exact ⟨rfl, unhide HD, Only.refl _ _⟩

end Go.Proofs.YtgpojbgjfibblaaGreat.texts
