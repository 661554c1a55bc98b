/-
  The document's End in memory, and the walk of its place. The walks of the document's New and Hear.
  Conditions stand in each theorem.
-/
import Derived.Test.YtgpojbgjfibblabGreatPart20
namespace Go.Proofs.YtgpojbgjfibblabGreat.texts
open Go.RowKit
set_option linter.unusedVariables false
attribute [local go_sem ↓] Go.wp_at_zero Go.wp_at_succ

def Doc.row (d : Doc) : List Value := d.cs.flatMap (fun x => x.cells.toList)
/-- an End lies in a block of its own, its contexts in another -/
structure DocAt (w : World) (g gl : Nat) (d : Doc) : Prop where
  head : w.heap[g]? = some (.cells #[.int .i64 d.cids, .int .i64 d.keep, .int .i64 d.refresh, .slice (some ⟨gl, 0, none⟩) d.cs.length d.cs.length, .int .i64 d.sent] 94 (0, 0))
  rows : w.heap[gl]? = some (.cells d.row.toArray 126 (0, 0))
  sl : ∀ i, i < d.cs.length → ∃ a l c, (d.at_ i).sv = .slice a l c
theorem DocAt.keep {w w' : World} {g gl : Nat} {d : Doc} (h : DocAt w g gl d) (hb : Below w.heap.size w w') : DocAt w' g gl d := ⟨block_keep h.head hb, block_keep h.rows hb, h.sl⟩
theorem rcflat_get (l : List Rc) : ∀ (i j : Nat), i < l.length → j < 13 → (l.flatMap (fun c => c.cells.toList))[13 * i + j]? = (l.getD i Rc.blank).cells[j]? := by
  induction l with
  | nil => intro i j h; simp at h
  | cons c l ih =>
    intro i j h hj
    have hc : c.cells.size = 13 := rfl
    rw [List.flatMap_cons]
    cases i with
    | zero =>
      rw [List.getElem?_append_left (by rw [Array.length_toList, hc]; omega)]
      simp
    | succ i =>
      rw [List.getElem?_append_right (by rw [Array.length_toList, hc]; omega), Array.length_toList, hc]
      have := ih i j (by simpa using h) hj
      rw [show 13 * (i + 1) + j - 13 = 13 * i + j by omega, this]
      simp
theorem DocAt.cell {w : World} {g gl : Nat} {d : Doc} (h : DocAt w g gl d) {i j : Nat} (hi : i < d.cs.length) (hj : j < 13) : w.cell? ⟨gl, i * 13 + j, none⟩ = (d.at_ i).cells[j]? := by
  rw [block_cell h.rows, List.getElem?_toArray, Nat.mul_comm]
  exact rcflat_get d.cs i j hi hj
theorem DocAt.cells {w : World} {g gl : Nat} {d : Doc} (h : DocAt w g gl d) {i : Nat} (hi : i < d.cs.length) {x : Rc} (hx : d.at_ i = x) :
    w.cell? ⟨gl, i * 13, none⟩ = some (.bool x.has) ∧ w.cell? ⟨gl, i * 13 + 1, none⟩ = some (.int .u32 x.src) ∧ w.cell? ⟨gl, i * 13 + 2, none⟩ = some (.int .u32 x.dst) ∧ w.cell? ⟨gl, i * 13 + 3, none⟩ = some (.int .u16 x.port) ∧ w.cell? ⟨gl, i * 13 + 4, none⟩ = some (.int .i64 x.turn) ∧ w.cell? ⟨gl, i * 13 + 5, none⟩ = some x.sv ∧ w.cell? ⟨gl, i * 13 + 6, none⟩ = some (.int .i64 x.time) ∧ w.cell? ⟨gl, i * 13 + 7, none⟩ = some (.int .i64 x.whole) ∧ w.cell? ⟨gl, i * 13 + 8, none⟩ = some (.int .i64 x.full) ∧ w.cell? ⟨gl, i * 13 + 9, none⟩ = some (.int .i64 x.age) ∧ w.cell? ⟨gl, i * 13 + 10, none⟩ = some (.int .i64 x.last) ∧ w.cell? ⟨gl, i * 13 + 11, none⟩ = some (.int .i64 x.sent) ∧ w.cell? ⟨gl, i * 13 + 12, none⟩ = some (.int .i64 x.missed) := by
  subst hx
  exact ⟨h.cell hi (j := 0) (by omega), h.cell hi (j := 1) (by omega), h.cell hi (j := 2) (by omega), h.cell hi (j := 3) (by omega), h.cell hi (j := 4) (by omega), h.cell hi (j := 5) (by omega), h.cell hi (j := 6) (by omega), h.cell hi (j := 7) (by omega), h.cell hi (j := 8) (by omega), h.cell hi (j := 9) (by omega), h.cell hi (j := 10) (by omega), h.cell hi (j := 11) (by omega), h.cell hi (j := 12) (by omega)⟩

/-- what place has found, from the top down to r -/
structure Seen (d : Doc) (a b c r : Nat) (fr : Int) (ol : Nat) : Prop where
  none_ : ∀ j, r ≤ j → j < d.cs.length → ¬ (d.at_ j).isR a b c
  free : (fr = -1 ∧ ∀ j, r ≤ j → j < d.cs.length → (d.at_ j).has = true) ∨ (∃ f : Nat, fr = f ∧ r ≤ f ∧ f < d.cs.length ∧ (d.at_ f).has = false ∧ ∀ j, r ≤ j → j < f → (d.at_ j).has = true)
  old : ol < d.cs.length
  least : ∀ j, r ≤ j → j < d.cs.length → (d.at_ ol).last ≤ (d.at_ j).last
theorem seen_start (d : Doc) (a b c : Nat) (h : 0 < d.cs.length) : Seen d a b c d.cs.length (-1) 0 :=
  ⟨fun j h1 h2 => by omega, Or.inl ⟨rfl, fun j h1 h2 => by omega⟩, h, fun j h1 h2 => by omega⟩
theorem seen_next {d : Doc} {a b c r : Nat} {fr : Int} {ol : Nat} (h : Seen d a b c (r + 1) fr ol) (hr : r < d.cs.length) (hn : ¬ (d.at_ r).isR a b c) :
    Seen d a b c r (if (d.at_ r).has = true then fr else (r : Int)) (if (d.at_ r).last ≤ (d.at_ ol).last then r else ol) := by
  refine ⟨fun j h1 h2 => ?_, ?_, ?_, fun j h1 h2 => ?_⟩
  · by_cases e : j = r
    · subst e; exact hn
    · exact h.none_ j (by omega) h2
  · by_cases hh : (d.at_ r).has = true
    · rw [if_pos hh]
      rcases h.free with ⟨e, ha⟩ | ⟨f, e, h1, h2, h3, h4⟩
      · refine Or.inl ⟨e, fun j h1 h2 => ?_⟩
        by_cases e2 : j = r
        · subst e2; exact hh
        · exact ha j (by omega) h2
      · refine Or.inr ⟨f, e, by omega, h2, h3, fun j h5 h6 => ?_⟩
        by_cases e2 : j = r
        · subst e2; exact hh
        · exact h4 j (by omega) h6
    · rw [if_neg hh]
      exact Or.inr ⟨r, rfl, Nat.le_refl _, hr, by simpa using hh, fun j h1 h2 => by omega⟩
  · have := h.old
    split <;> omega
  · by_cases hl : (d.at_ r).last ≤ (d.at_ ol).last
    · rw [if_pos hl]
      by_cases e : j = r
      · subst e; exact Nat.le_refl _
      · exact Nat.le_trans hl (h.least j (by omega) h2)
    · rw [if_neg hl]
      by_cases e : j = r
      · subst e; omega
      · exact h.least j (by omega) h2
theorem seen_free {d : Doc} {a b c : Nat} {fr : Int} {ol : Nat} (h : Seen d a b c 0 fr ol) (hf : 0 ≤ fr) : PlaceIs d a b c fr.toNat true := by
  rcases h.free with ⟨e, _⟩ | ⟨f, e, h1, h2, h3, h4⟩
  · omega
  · rw [e, Int.toNat_natCast]
    exact ⟨h2, Or.inr ⟨rfl, fun j hj => h.none_ j (by omega) hj, Or.inl ⟨h3, fun j hj => h4 j (by omega) hj⟩⟩⟩
theorem seen_old {d : Doc} {a b c : Nat} {fr : Int} {ol : Nat} (h : Seen d a b c 0 fr ol) (hf : fr < 0) : PlaceIs d a b c ol true := by
  rcases h.free with ⟨e, ha⟩ | ⟨f, e, _⟩
  · exact ⟨h.old, Or.inr ⟨rfl, fun j hj => h.none_ j (by omega) hj, Or.inr ⟨fun j hj => ha j (by omega) hj, fun j hj => h.least j (by omega) hj⟩⟩⟩
  · omega

def Placed (d : Doc) (a b c : Nat) (e : Ending) : Prop := ∃ (i : Nat) (fresh : Bool), e = .returned (.tuple #[.int .i64 i, .bool fresh]) ∧ PlaceIs d a b c i fresh
theorem at_drewN {w : World} {k : Nat} {O : Obj} (h : w.heap[k]? = some O) (n : Nat) : (w.drewN n).heap[k]? = some O := h

set_option maxRecDepth 100000 in
set_option maxHeartbeats 4000000 in
theorem place_any (d : Doc) (g gl a b c : Nat) (w : World) (h : DocAt w g gl d) (hl0 : 0 < d.cs.length) (hl8 : d.cs.length ≤ 8) :
    Calls Tryz.prog 44 #[.pointer (some ⟨g, 0, none⟩), .agg #[.int .u32 a, .int .u32 b, .int .u16 c]] w fun e w' => Placed d a b c e ∧ Below w.heap.size w w' := by
  have HD := hide h
  have hd3 : (w.alloc (.cells #[.int .u32 (a : Int), .int .u32 (b : Int), .int .u16 (c : Int)] 41)).cell? ⟨g, 3, none⟩ = some (.slice (some ⟨gl, 0, none⟩) d.cs.length d.cs.length) := block_cell (block_alloc h.head _) 3
  obtain ⟨n, hn⟩ : ∃ n, n = d.cs.length := ⟨_, rfl⟩
  rw [← hn] at hd3 hl0 hl8
  have Hn := hide hn
  have HR0 := hide (heap_alloc_new w (.cells #[.int .u32 (a : Int), .int .u32 (b : Int), .int .u16 (c : Int)] 41))
  have HB0 := hide (show Below w.heap.size w (w.alloc (.cells #[.int .u32 (a : Int), .int .u32 (b : Int), .int .u16 (c : Int)] 41)) from (Below.refl _ _).alloc (Nat.le_refl _) _)
  have hgw := block_lt h.head
  have hlw := block_lt h.rows
  clear h hn
  go_enter Tryz.func44, Tryz.ntmps44
  go_wp2_with fail
  go_loopw [6, 7, 8] (fun fv ov iv wr => ∃ (r : Nat) (fr : Int) (ol : Nat), r ≤ n ∧ iv = .int .i64 ((r : Int) - 1) ∧ fv = .int .i64 fr ∧ ov = .int .i64 (ol : Nat) ∧ -1 ≤ fr ∧ Seen d a b c r fr ol ∧ Below w.heap.size w wr ∧ wr.heap[w.heap.size]? = some (.cells #[.int .u32 (a : Int), .int .u32 (b : Int), .int .u16 (c : Int)] 41 (0, 0))) (fun _ _ iv _ => (intOf iv + 1).toNat)
  case atStart => exact ⟨n, -1, 0, Nat.le_refl _, by go_num, rfl, rfl, by omega, by rw [unhide Hn]; exact seen_start d a b c (by rw [← unhide Hn]; exact hl0), unhide HB0, unhide HR0⟩
  case round =>
    obtain ⟨r, fr, ol, hr, rfl, rfl, rfl, hfr, hseen, hbel, hroute⟩ := hrel
    clear HR0 HB0 hd3
    by_cases hr0 : r = 0
    · subst hr0
      have HSe := hide hseen
      have HBe := hide hbel
      clear hseen hbel hroute
      by_cases hf0 : 0 ≤ fr
      · go_wp2_with fail
        go_ret2
        exact ⟨⟨fr.toNat, true, by rw [Int.toNat_of_nonneg hf0]; rfl, seen_free (unhide HSe) hf0⟩, unhide HBe⟩
      · have hf1 : ¬ (0 ≤ fr) := hf0
        go_wp2_with fail
        go_ret2
        exact ⟨⟨ol, true, rfl, seen_old (unhide HSe) (by omega)⟩, unhide HBe⟩
    · obtain ⟨q, rfl⟩ : ∃ q, r = q + 1 := ⟨r - 1, by omega⟩
      have hqn : q < n := by omega
      have hqI : (q : Int) < (n : Int) := by omega
      have hq0 : (0 : Int) ≤ (q : Int) := by omega
      have hqe : ((q + 1 : Nat) : Int) - 1 = (q : Int) := by omega
      rw [hqe]
      have hD := unhide HD
      have hqd : q < d.cs.length := by rw [← unhide Hn]; exact hqn
      have hold := hseen.old
      rw [← unhide Hn] at hold
      obtain ⟨x, hx⟩ : ∃ x, d.at_ q = x := ⟨_, rfl⟩
      obtain ⟨z, hz⟩ : ∃ z, d.at_ ol = z := ⟨_, rfl⟩
      have hDr : DocAt wr g gl d := ⟨by rw [hbel.block g hgw]; exact hD.head, by rw [hbel.block gl hlw]; exact hD.rows, hD.sl⟩
      obtain ⟨va, vl, vc, hsv⟩ := hD.sl q hqd
      rw [hx] at hsv
      have hd3 : wr.cell? ⟨g, 3, none⟩ = some (.slice (some ⟨gl, 0, none⟩) n n) := by
        have := block_cell hDr.head 3
        rw [← unhide Hn] at this
        exact this
      obtain ⟨x0, x1, x2, x3, x4, x5, x6, x7, x8, x9, x10, x11, x12⟩ := hDr.cells hqd hx
      rw [hsv] at x5
      have hzl := (hDr.cells hseen.old hz).2.2.2.2.2.2.2.2.2.2.1
      have hglr : gl < wr.heap.size := block_lt hDr.rows
      have hgr : g < wr.heap.size := block_lt hDr.head
      have hrr := block_lt hroute
      have holI : (ol : Int) < (n : Int) := by omega
      have hol0 : (0 : Int) ≤ (ol : Int) := by omega
      have HSe := hide hseen
      have HBe := hide hbel
      have Hx := hide hx
      have Hz := hide hz
      have HDr := hide hDr
      have HRt := hide hroute
      clear hseen hbel hx hz hDr hroute hD
      go_upto_region 7 with fail
      have XB : (wr.alloc (.cells #[.bool x.has, .int .u32 (x.src : Int), .int .u32 (x.dst : Int), .int .u16 (x.port : Int), .int .i64 (x.turn : Int), .slice va vl vc, .int .i64 (x.time : Int), .int .i64 (x.whole : Int), .int .i64 (x.full : Int), .int .i64 (x.age : Int), .int .i64 (x.last : Int), .int .i64 (x.sent : Int), .int .i64 (x.missed : Int)] 126)).heap[wr.heap.size]? = some (Obj.cells #[.bool x.has, .int .u32 (x.src : Int), .int .u32 (x.dst : Int), .int .u16 (x.port : Int), .int .i64 (x.turn : Int), .slice va vl vc, .int .i64 (x.time : Int), .int .i64 (x.whole : Int), .int .i64 (x.full : Int), .int .i64 (x.age : Int), .int .i64 (x.last : Int), .int .i64 (x.sent : Int), .int .i64 (x.missed : Int)] 126 (0, 0)) := heap_alloc_new wr _
      have D5 : DocAt (wr.alloc (.cells #[.bool x.has, .int .u32 (x.src : Int), .int .u32 (x.dst : Int), .int .u16 (x.port : Int), .int .i64 (x.turn : Int), .slice va vl vc, .int .i64 (x.time : Int), .int .i64 (x.whole : Int), .int .i64 (x.full : Int), .int .i64 (x.age : Int), .int .i64 (x.last : Int), .int .i64 (x.sent : Int), .int .i64 (x.missed : Int)] 126)) g gl d := ⟨block_alloc (unhide HDr).head _, block_alloc (unhide HDr).rows _, (unhide HDr).sl⟩
      have R5 := block_alloc (unhide HRt) (.cells #[.bool x.has, .int .u32 (x.src : Int), .int .u32 (x.dst : Int), .int .u16 (x.port : Int), .int .i64 (x.turn : Int), .slice va vl vc, .int .i64 (x.time : Int), .int .i64 (x.whole : Int), .int .i64 (x.full : Int), .int .i64 (x.age : Int), .int .i64 (x.last : Int), .int .i64 (x.sent : Int), .int .i64 (x.missed : Int)] 126)
      have B5 : Below w.heap.size w (wr.alloc (.cells #[.bool x.has, .int .u32 (x.src : Int), .int .u32 (x.dst : Int), .int .u16 (x.port : Int), .int .i64 (x.turn : Int), .slice va vl vc, .int .i64 (x.time : Int), .int .i64 (x.whole : Int), .int .i64 (x.full : Int), .int .i64 (x.age : Int), .int .i64 (x.last : Int), .int .i64 (x.sent : Int), .int .i64 (x.missed : Int)] 126)) := grew_alloc (unhide HBe) _
      clear x0 x1 x2 x3 x4 x5 x6 x7 x8 x9 x10 x11 x12 hd3 hzl
      generalize wr.alloc (.cells #[.bool x.has, .int .u32 (x.src : Int), .int .u32 (x.dst : Int), .int .u16 (x.port : Int), .int .i64 (x.turn : Int), .slice va vl vc, .int .i64 (x.time : Int), .int .i64 (x.whole : Int), .int .i64 (x.full : Int), .int .i64 (x.age : Int), .int .i64 (x.last : Int), .int .i64 (x.sent : Int), .int .i64 (x.missed : Int)] 126) = w5 at XB D5 R5 B5 ⊢
      generalize wr.heap.size = gx at XB ⊢
      have y0 : w5.cell? ⟨gx, 0, none⟩ = some (.bool x.has) := block_cell XB 0
      have y1 : w5.cell? ⟨gx, 1, none⟩ = some (.int .u32 (x.src : Int)) := block_cell XB 1
      have y2 : w5.cell? ⟨gx, 2, none⟩ = some (.int .u32 (x.dst : Int)) := block_cell XB 2
      have y3 : w5.cell? ⟨gx, 3, none⟩ = some (.int .u16 (x.port : Int)) := block_cell XB 3
      have y10 : w5.cell? ⟨gx, 10, none⟩ = some (.int .i64 (x.last : Int)) := block_cell XB 10
      have t0 : w5.cell? ⟨w.heap.size, 0, none⟩ = some (.int .u32 (a : Int)) := block_cell R5 0
      have t1 : w5.cell? ⟨w.heap.size, 1, none⟩ = some (.int .u32 (b : Int)) := block_cell R5 1
      have t2 : w5.cell? ⟨w.heap.size, 2, none⟩ = some (.int .u16 (c : Int)) := block_cell R5 2
      have hd3 : w5.cell? ⟨g, 3, none⟩ = some (.slice (some ⟨gl, 0, none⟩) n n) := by
        have := block_cell D5.head 3
        rw [← unhide Hn] at this
        exact this
      have hzl := (D5.cells (unhide HSe).old (unhide Hz)).2.2.2.2.2.2.2.2.2.2.1
      have H5 := hide (show _ ∧ _ from ⟨B5, R5⟩)
      clear XB D5 R5 B5
      go_cut [34] (fun v wx => (∃ β : Bool, v = .bool β ∧ (β = true ↔ x.isR a b c)) ∧ wx = w5)
      case first =>
        cases hxh : x.has with
        | false =>
          rw [hxh] at y0
          go_wp2_with fail
          go_meet
          case rel => exact ⟨⟨false, rfl, by simp [Rc.isR, hxh]⟩, rfl⟩
        | true =>
          rw [hxh] at y0
          go_wp2_with fail
          all_goals
            go_meet
            case rel =>
              refine ⟨⟨_, rfl, ?_⟩, rfl⟩
              simp [Rc.isR, hxh]
              try omega
      case rest =>
        obtain ⟨⟨β, rfl, hβ⟩, rfl⟩ := hcut
        cases β with
        | true =>
          have hisR := hide (hβ.1 rfl)
          clear hβ
          go_wp2_with fail
          go_ret2
          exact ⟨⟨q, false, rfl, ⟨hqd, Or.inl ⟨rfl, by rw [unhide Hx]; exact unhide hisR⟩⟩⟩, (unhide H5).1⟩
        | false =>
          have hnR : ¬ (d.at_ q).isR a b c := by
            rw [unhide Hx]
            intro e
            have := hβ.2 e
            cases this
          clear hβ
          by_cases hle : x.last ≤ z.last
          · have hleI : (x.last : Int) ≤ (z.last : Int) := by omega
            cases hxh : x.has with
            | true =>
              rw [hxh] at y0
              go_wp2_with fail
              go_quiet (fail)
              go_wp2_with fail
              go_roundw
              case rel =>
                have hs := seen_next (unhide HSe) hqd hnR
                rw [unhide Hx, unhide Hz, hxh] at hs
                rw [if_pos rfl, if_pos hle] at hs
                exact ⟨q, fr, q, by omega, by go_num, rfl, rfl, by omega, hs, below_drewN (unhide H5).1 _, at_drewN (unhide H5).2 _⟩
              case measure => simp [intOf]
            | false =>
              rw [hxh] at y0
              go_wp2_with fail
              go_quiet (fail)
              go_wp2_with fail
              go_roundw
              case rel =>
                have hs := seen_next (unhide HSe) hqd hnR
                rw [unhide Hx, unhide Hz, hxh] at hs
                rw [if_neg (by decide), if_pos hle] at hs
                exact ⟨q, (q : Int), q, by omega, by go_num, rfl, rfl, by omega, hs, below_drewN (unhide H5).1 _, at_drewN (unhide H5).2 _⟩
              case measure => simp [intOf]
          · have hleI : ¬ ((x.last : Int) ≤ (z.last : Int)) := by omega
            have hleD : decide ((x.last : Int) ≤ (z.last : Int)) = false := decide_eq_false hleI
            cases hxh : x.has with
            | true =>
              rw [hxh] at y0
              go_wp2_with fail
              go_quiet (fail)
              go_wp2_with fail
              go_roundw
              case rel =>
                have hs := seen_next (unhide HSe) hqd hnR
                rw [unhide Hx, unhide Hz, hxh] at hs
                rw [if_pos rfl, if_neg hle] at hs
                exact ⟨q, fr, ol, by omega, by go_num, rfl, rfl, by omega, hs, below_drewN (unhide H5).1 _, at_drewN (unhide H5).2 _⟩
              case measure => simp [intOf]
            | false =>
              rw [hxh] at y0
              go_wp2_with fail
              go_quiet (fail)
              go_wp2_with fail
              go_roundw
              case rel =>
                have hs := seen_next (unhide HSe) hqd hnR
                rw [unhide Hx, unhide Hz, hxh] at hs
                rw [if_neg (by decide), if_neg hle] at hs
                exact ⟨q, (q : Int), ol, by omega, by go_num, rfl, rfl, by omega, hs, below_drewN (unhide H5).1 _, at_drewN (unhide H5).2 _⟩
              case measure => simp [intOf]

end Go.Proofs.YtgpojbgjfibblabGreat.texts

namespace Go.Proofs.YtgpojbgjfibblabGreat.texts
open Go.RowKit
set_option linter.unusedVariables false
attribute [local go_sem ↓] Go.wp_at_zero Go.wp_at_succ
attribute [local go_sem] bs_size bs_extract bs_list

/-- one cell of a context is stored -/
theorem rcflat_put (l : List Rc) : ∀ (i j : Nat) (v : Value) (x : Rc), i < l.length → j < 13 → x.cells.toList = (l.getD i Rc.blank).cells.toList.set j v → (l.flatMap (fun c => c.cells.toList)).set (13 * i + j) v = (l.set i x).flatMap (fun c => c.cells.toList) := by
  induction l with
  | nil => intro i j v x h; simp at h
  | cons c l ih =>
    intro i j v x h hj hx
    have hc : c.cells.toList.length = 13 := rfl
    cases i with
    | zero =>
      rw [List.flatMap_cons, List.set_append_left _ _ (by omega), List.set_cons_zero, List.flatMap_cons, hx]
      simp
    | succ i =>
      rw [List.flatMap_cons, List.set_append_right _ _ (by omega), List.set_cons_succ, List.flatMap_cons, hc, show 13 * (i + 1) + j - 13 = 13 * i + j by omega]
      rw [ih i j v x (by simpa using h) hj (by simpa using hx)]
theorem Doc.put (d : Doc) (i j : Nat) (v : Value) (x : Rc) (hi : i < d.cs.length) (hj : j < 13) (hx : x.cells.toList = (d.at_ i).cells.toList.set j v) : d.row.toArray.setIfInBounds (i * 13 + j) v = (d.set i x).row.toArray := by
  rw [List.setIfInBounds_toArray, Nat.mul_comm]
  congr 1
  exact rcflat_put d.cs i j v x hi hj hx

def NewPost (w : World) (c k r : Nat) (e : Ending) (w' : World) : Prop := ∃ g gl, e = .returned (.tuple #[.pointer (some ⟨g, 0, none⟩), .int .i64 0]) ∧ w.heap.size ≤ g ∧ w.heap.size ≤ gl ∧ g ≠ gl ∧ DocAt w' g gl (docFresh c k r) ∧ Below w.heap.size w w'

theorem dmake1 (w : World) : (Instr.makeSlice 92 (.int .i64 1) (.int .i64 1)).run Tryz.prog w = .ok (.slice (some ⟨w.heap.size, 0, none⟩) 1 1) (w.alloc (.cells (docFresh 1 0 0).row.toArray 126)) := by kernel_rfl
theorem dmake2 (w : World) : (Instr.makeSlice 92 (.int .i64 2) (.int .i64 2)).run Tryz.prog w = .ok (.slice (some ⟨w.heap.size, 0, none⟩) 2 2) (w.alloc (.cells (docFresh 2 0 0).row.toArray 126)) := by kernel_rfl
theorem dmake3 (w : World) : (Instr.makeSlice 92 (.int .i64 3) (.int .i64 3)).run Tryz.prog w = .ok (.slice (some ⟨w.heap.size, 0, none⟩) 3 3) (w.alloc (.cells (docFresh 3 0 0).row.toArray 126)) := by kernel_rfl
theorem dmake4 (w : World) : (Instr.makeSlice 92 (.int .i64 4) (.int .i64 4)).run Tryz.prog w = .ok (.slice (some ⟨w.heap.size, 0, none⟩) 4 4) (w.alloc (.cells (docFresh 4 0 0).row.toArray 126)) := by kernel_rfl
theorem dmake5 (w : World) : (Instr.makeSlice 92 (.int .i64 5) (.int .i64 5)).run Tryz.prog w = .ok (.slice (some ⟨w.heap.size, 0, none⟩) 5 5) (w.alloc (.cells (docFresh 5 0 0).row.toArray 126)) := by kernel_rfl
theorem dmake6 (w : World) : (Instr.makeSlice 92 (.int .i64 6) (.int .i64 6)).run Tryz.prog w = .ok (.slice (some ⟨w.heap.size, 0, none⟩) 6 6) (w.alloc (.cells (docFresh 6 0 0).row.toArray 126)) := by kernel_rfl
theorem dmake7 (w : World) : (Instr.makeSlice 92 (.int .i64 7) (.int .i64 7)).run Tryz.prog w = .ok (.slice (some ⟨w.heap.size, 0, none⟩) 7 7) (w.alloc (.cells (docFresh 7 0 0).row.toArray 126)) := by kernel_rfl
theorem dmake8 (w : World) : (Instr.makeSlice 92 (.int .i64 8) (.int .i64 8)).run Tryz.prog w = .ok (.slice (some ⟨w.heap.size, 0, none⟩) 8 8) (w.alloc (.cells (docFresh 8 0 0).row.toArray 126)) := by kernel_rfl
theorem dmake {c : Nat} (h1 : 1 ≤ c) (h2 : c ≤ 8) (w : World) : (Instr.makeSlice 92 (.int .i64 (c : Nat)) (.int .i64 (c : Nat))).run Tryz.prog w = .ok (.slice (some ⟨w.heap.size, 0, none⟩) c c) (w.alloc (.cells (docFresh c 0 0).row.toArray 126)) := by
  have hc : c = 1 ∨ c = 2 ∨ c = 3 ∨ c = 4 ∨ c = 5 ∨ c = 6 ∨ c = 7 ∨ c = 8 := by omega
  rcases hc with rfl | rfl | rfl | rfl | rfl | rfl | rfl | rfl
  · exact dmake1 w
  · exact dmake2 w
  · exact dmake3 w
  · exact dmake4 w
  · exact dmake5 w
  · exact dmake6 w
  · exact dmake7 w
  · exact dmake8 w

set_option maxRecDepth 100000 in
set_option maxHeartbeats 8000000 in
theorem dnew_yes (c k r : Nat) (w : World) (h1 : 1 ≤ c) (h2 : c ≤ 8) (h3 : 1 ≤ k) (h4 : k ≤ 4) (h5 : 2 ≤ r) (h6 : r ≤ 100) :
    Calls Tryz.prog 12 #[.agg #[.int .i64 c, .int .i64 k, .int .i64 r]] w fun e w' => NewPost w c k r e w' := by
  have a1 : ¬ ((c : Int) < 1) := by omega
  have a2 : ¬ ((8 : Int) < (c : Int)) := by omega
  have a3 : ¬ ((k : Int) < 1) := by omega
  have a4 : ¬ ((4 : Int) < (k : Int)) := by omega
  have a5 : ¬ ((r : Int) < 2) := by omega
  have a6 : ¬ ((100 : Int) < (r : Int)) := by omega
  have hmk := fun w => dmake h1 h2 w
  obtain ⟨Z, hZ⟩ : ∃ Z, Z = (docFresh c 0 0).row.toArray := ⟨_, rfl⟩
  rw [← hZ] at hmk
  have HZ := hide hZ
  clear h1 h2 hZ
  go_enter Tryz.func12, Tryz.ntmps12
  go_wp2_with fail
  go_region
  all_goals go_wp2_with fail
  all_goals go_ret2
  all_goals
    have hlen : (docFresh c k r).cs.length = c := by simp [docFresh]
    refine ⟨w.heap.size + 1 + 1, w.heap.size + 1, rfl, by omega, by omega, by omega, ⟨?_, ?_, ?_⟩, ?_⟩
    · rw [hlen]
      exact third_alloc w _ _ _
    · have e : (docFresh c k r).row.toArray = Z := by rw [unhide HZ]; rfl
      rw [e]
      exact second_alloc w _ _ _
    · intro i hi
      rw [docFresh_at]
      exact ⟨none, 0, 0, rfl⟩
    · exact ((((Below.refl _ _).alloc (Nat.le_refl _) _).alloc (by simp) _).alloc (by simp; omega) _).drew

/-- the document's Hear -/
theorem docHear_len {d : Doc} {l : List UInt8} (h : l.length ≠ 2) : docHearE d l = 7 ∧ docHearM d l = d := by
  match l, h with
  | [], _ => exact ⟨rfl, rfl⟩
  | [_], _ => exact ⟨rfl, rfl⟩
  | [_, _], h => exact absurd rfl h
  | _ :: _ :: _ :: _, _ => exact ⟨rfl, rfl⟩

theorem two_of {l : List UInt8} (h : l.length = 2) : ∃ x y, l = [x, y] := by
  match l, h with
  | [x, y], _ => exact ⟨x, y, rfl⟩

set_option maxRecDepth 100000 in
set_option maxHeartbeats 8000000 in
theorem dhear_any (d : Doc) (g gl : Nat) (l : List UInt8) (w : World) (h : DocAt w g gl d) (hne : g ≠ gl) (hl : l.length ≤ maxLen) (hk4 : d.keep ≤ 4) :
    Calls Tryz.prog 25 #[.pointer (some ⟨g, 0, none⟩), .string (bs l)] w fun e w' => e = .returned (.int .i64 (docHearE d l : Nat)) ∧ DocAt w' g gl (docHearM d l) ∧ Only (· = gl) w w' := by
  have HD := hide h
  have hlI : (l.length : Int) ≤ 9223372036854775807 := by unfold maxLen at hl; omega
  by_cases h2 : l.length = 2
  · obtain ⟨x, y, rfl⟩ : ∃ x y, l = [x, y] := two_of h2
    obtain ⟨n, hn⟩ : ∃ n, n = d.cs.length := ⟨_, rfl⟩
    have hd3 : w.cell? ⟨g, 3, none⟩ = some (.slice (some ⟨gl, 0, none⟩) n n) := by rw [hn]; exact block_cell h.head 3
    have hd1 : w.cell? ⟨g, 1, none⟩ = some (.int .i64 d.keep) := block_cell h.head 1
    have h00 : 1 < (bs [x, y]).size := by rw [bs_size]; simp
    have hby : ((bs [x, y])[1]'h00).toNat = y.toNat := rfl
    obtain ⟨i, hi⟩ : ∃ i, i = y.toNat := ⟨_, rfl⟩
    rw [← hi] at hby
    have hi256 : i < 256 := by rw [hi]; exact UInt8.toNat_lt y
    have hS : ((bs [x]).toList == [83]) = decide (x.toNat = 83) := by
      rw [bs_toList]
      by_cases e : x.toNat = 83
      · rw [decide_eq_true e, beq_iff_eq, show x = 83 from UInt8.toNat.inj e]
      · rw [decide_eq_false e, beq_eq_false_iff_ne]
        intro e2
        simp at e2
        exact e (by rw [e2]; rfl)
    have hT : ((bs [x]).toList == [68]) = decide (x.toNat = 68) := by
      rw [bs_toList]
      by_cases e : x.toNat = 68
      · rw [decide_eq_true e, beq_iff_eq, show x = 68 from UInt8.toNat.inj e]
      · rw [decide_eq_false e, beq_eq_false_iff_ne]
        intro e2
        simp at e2
        exact e (by rw [e2]; rfl)
    by_cases hin : i < n
    · obtain ⟨c, hc⟩ : ∃ c, d.at_ i = c := ⟨_, rfl⟩
      have c0 := (h.cells (by omega) hc).1
      have hinI : ¬ ((n : Int) ≤ (i : Int)) := by omega
      have hinD : decide ((n : Int) ≤ (i : Int)) = false := decide_eq_false hinI
      have hi0 : (0 : Int) ≤ (i : Int) := by omega
      have hiI : (i : Int) < (n : Int) := by omega
      have Hc := hide hc
      cases hh : c.has with
      | false =>
        rw [hh] at c0
        have he : docHearE d [x, y] = 7 := by
          show (if y.toNat < d.cs.length ∧ (d.at_ y.toNat).has = true ∧ (x.toNat = 83 ∨ x.toNat = 68) then 0 else 7) = 7
          rw [if_neg (by rw [← hi, hc, hh]; simp)]
        have hm : docHearM d [x, y] = d := by
          show (if y.toNat < d.cs.length ∧ (d.at_ y.toNat).has = true then if x.toNat = 83 then d.set y.toNat { d.at_ y.toNat with whole := d.keep } else if x.toNat = 68 then d.set y.toNat { d.at_ y.toNat with full := d.keep } else d else d) = d
          rw [if_neg (by rw [← hi, hc, hh]; simp)]
        rw [he, hm]
        clear h hn hi hc he hm
        go_enter Tryz.func25, Tryz.ntmps25
        go_wp2_with fail
        go_ret
        exact ⟨rfl, unhide HD, Only.refl _ _⟩
      | true =>
        rw [hh] at c0
        have Hn := hide hn
        have Hi := hide hi
        clear hc hn hi
        by_cases hx : x.toNat = 83
        · rw [decide_eq_true hx] at hS
          have g7 : w.cell? ⟨gl, i * 13 + 7, none⟩ = some (.int .i64 c.whole) := (h.cells (by rw [← unhide Hn]; exact hin) (unhide Hc)).2.2.2.2.2.2.2.1
          have g7d : w.drew.cell? ⟨gl, i * 13 + 7, none⟩ = some (.int .i64 c.whole) := g7
          have z7 := block_free h.rows (i * 13 + 7)
          have z7d : w.drew.frozen? ⟨gl, i * 13 + 7, none⟩ = false := z7
          have hd3d : w.drew.cell? ⟨g, 3, none⟩ = some (.slice (some ⟨gl, 0, none⟩) n n) := hd3
          have hd1d : w.drew.cell? ⟨g, 1, none⟩ = some (.int .i64 d.keep) := hd1
          clear h
          go_enter Tryz.func25, Tryz.ntmps25
          go_wp2_with fail
          go_region
          all_goals go_wp2_with fail
          all_goals go_ret
          all_goals
            have hD := unhide HD
            have hid : i < d.cs.length := by rw [← unhide Hn]; omega
            have he : docHearE d [x, y] = 0 := by
              show (if y.toNat < d.cs.length ∧ (d.at_ y.toNat).has = true ∧ (x.toNat = 83 ∨ x.toNat = 68) then 0 else 7) = 0
              rw [← unhide Hi, if_pos ⟨hid, by rw [unhide Hc]; exact hh, by omega⟩]
            have hm : docHearM d [x, y] = d.set i { d.at_ i with whole := d.keep } := by
              show (if y.toNat < d.cs.length ∧ (d.at_ y.toNat).has = true then if x.toNat = 83 then d.set y.toNat { d.at_ y.toNat with whole := d.keep } else if x.toNat = 68 then d.set y.toNat { d.at_ y.toNat with full := d.keep } else d else d) = _
              rw [← unhide Hi, if_pos ⟨hid, by rw [unhide Hc]; exact hh⟩]
              rw [if_pos hx]
            rw [he, hm]
            refine ⟨rfl, ⟨?_, ?_, ?_⟩, (Only.setCell (S := (· = gl)) (p := ⟨gl, i * 13 + 7, none⟩) (Only.refl _ _) rfl _).drew⟩
            · have e : (d.set i { d.at_ i with whole := d.keep }).cs.length = d.cs.length := by simp [Doc.set]
              rw [e]
              exact block_set hD.head (by exact hne) _
            · have e := heap_setCell_same w gl (i * 13 + 7) _ _ (.int .i64 (d.keep : Int)) hD.rows
              rw [Doc.put d i 7 _ { d.at_ i with whole := d.keep } hid (by omega) rfl] at e
              exact e
            · intro j hj
              rw [Doc.set_at _ _ _ _ hid]
              split
              · exact hD.sl i hid
              · exact hD.sl j (by simpa [Doc.set] using hj)
        · rw [decide_eq_false hx] at hS
          by_cases hx2 : x.toNat = 68
          · rw [decide_eq_true hx2] at hT
            have g7 : w.cell? ⟨gl, i * 13 + 8, none⟩ = some (.int .i64 c.full) := (h.cells (by rw [← unhide Hn]; exact hin) (unhide Hc)).2.2.2.2.2.2.2.2.1
            have g7d : w.drew.cell? ⟨gl, i * 13 + 8, none⟩ = some (.int .i64 c.full) := g7
            have z7 := block_free h.rows (i * 13 + 8)
            have z7d : w.drew.frozen? ⟨gl, i * 13 + 8, none⟩ = false := z7
            have hd3d : w.drew.cell? ⟨g, 3, none⟩ = some (.slice (some ⟨gl, 0, none⟩) n n) := hd3
            have hd1d : w.drew.cell? ⟨g, 1, none⟩ = some (.int .i64 d.keep) := hd1
            clear h
            go_enter Tryz.func25, Tryz.ntmps25
            go_wp2_with fail
            go_region
            all_goals go_wp2_with fail
            all_goals go_ret
            all_goals
              have hD := unhide HD
              have hid : i < d.cs.length := by rw [← unhide Hn]; omega
              have he : docHearE d [x, y] = 0 := by
                show (if y.toNat < d.cs.length ∧ (d.at_ y.toNat).has = true ∧ (x.toNat = 83 ∨ x.toNat = 68) then 0 else 7) = 0
                rw [← unhide Hi, if_pos ⟨hid, by rw [unhide Hc]; exact hh, by omega⟩]
              have hm : docHearM d [x, y] = d.set i { d.at_ i with full := d.keep } := by
                show (if y.toNat < d.cs.length ∧ (d.at_ y.toNat).has = true then if x.toNat = 83 then d.set y.toNat { d.at_ y.toNat with whole := d.keep } else if x.toNat = 68 then d.set y.toNat { d.at_ y.toNat with full := d.keep } else d else d) = _
                rw [← unhide Hi, if_pos ⟨hid, by rw [unhide Hc]; exact hh⟩]
                rw [if_neg hx, if_pos hx2]
              rw [he, hm]
              refine ⟨rfl, ⟨?_, ?_, ?_⟩, (Only.setCell (S := (· = gl)) (p := ⟨gl, i * 13 + 8, none⟩) (Only.refl _ _) rfl _).drew⟩
              · have e : (d.set i { d.at_ i with full := d.keep }).cs.length = d.cs.length := by simp [Doc.set]
                rw [e]
                exact block_set hD.head (by exact hne) _
              · have e := heap_setCell_same w gl (i * 13 + 8) _ _ (.int .i64 (d.keep : Int)) hD.rows
                rw [Doc.put d i 8 _ { d.at_ i with full := d.keep } hid (by omega) rfl] at e
                exact e
              · intro j hj
                rw [Doc.set_at _ _ _ _ hid]
                split
                · exact hD.sl i hid
                · exact hD.sl j (by simpa [Doc.set] using hj)
          · rw [decide_eq_false hx2] at hT
            have he : docHearE d [x, y] = 7 := by
              show (if y.toNat < d.cs.length ∧ (d.at_ y.toNat).has = true ∧ (x.toNat = 83 ∨ x.toNat = 68) then 0 else 7) = 7
              rw [if_neg (by omega)]
            have hm : docHearM d [x, y] = d := by
              show (if y.toNat < d.cs.length ∧ (d.at_ y.toNat).has = true then if x.toNat = 83 then d.set y.toNat { d.at_ y.toNat with whole := d.keep } else if x.toNat = 68 then d.set y.toNat { d.at_ y.toNat with full := d.keep } else d else d) = d
              rw [if_neg hx, if_neg hx2]
              split <;> rfl
            rw [he, hm]
            clear h he hm
            go_enter Tryz.func25, Tryz.ntmps25
            go_wp2_with fail
            go_ret
            exact ⟨rfl, unhide HD, Only.refl _ _⟩
    · have hinI : (n : Int) ≤ (i : Int) := by omega
      have he : docHearE d [x, y] = 7 := by
        show (if y.toNat < d.cs.length ∧ (d.at_ y.toNat).has = true ∧ (x.toNat = 83 ∨ x.toNat = 68) then 0 else 7) = 7
        rw [if_neg (by omega)]
      have hm : docHearM d [x, y] = d := by
        show (if y.toNat < d.cs.length ∧ (d.at_ y.toNat).has = true then if x.toNat = 83 then d.set y.toNat { d.at_ y.toNat with whole := d.keep } else if x.toNat = 68 then d.set y.toNat { d.at_ y.toNat with full := d.keep } else d else d) = d
        rw [if_neg (by omega)]
      rw [he, hm]
      clear h hn hi he hm
      go_enter Tryz.func25, Tryz.ntmps25
      go_wp2_with fail
      go_ret
      exact ⟨rfl, unhide HD, Only.refl _ _⟩
  · obtain ⟨he, hm⟩ := docHear_len (d := d) h2
    rw [he, hm]
    have h2I : ¬ ((l.length : Int) = 2) := by omega
    clear h he hm
    go_enter Tryz.func25, Tryz.ntmps25
    go_wp2_with fail
    go_ret
    exact ⟨rfl, unhide HD, Only.refl _ _⟩

end Go.Proofs.YtgpojbgjfibblabGreat.texts
