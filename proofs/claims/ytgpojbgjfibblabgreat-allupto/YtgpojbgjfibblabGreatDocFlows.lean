/-
  The walk of the document's Flows.
  Conditions stand in each theorem.
-/
import Derived.Test.YtgpojbgjfibblabGreatJoinDocHear
namespace Go.Proofs.YtgpojbgjfibblabGreat.texts
open Go.RowKit
set_option linter.unusedVariables false
attribute [local go_sem ↓] Go.wp_at_zero Go.wp_at_succ

/-- a context whose numbers have their widths -/
structure Rc.fine (x : Rc) : Prop where
  turn : x.turn < 4
  sts : ∀ s ∈ x.sts, s.ok
  sent : x.sent + x.missed < 4611686018427387904
theorem dflowV_one (i : Nat) (x : Rc) : ∀ u ∈ (dflowV i x).toList, u.oneCell' = true := by
  intro u hu
  simp only [dflowV, List.mem_cons, List.not_mem_nil, or_false] at hu
  rcases hu with h | h | h | h | h | h | h <;> (subst h; rfl)
theorem dcountK_le (d : Doc) (j : Nat) : dcountK d j ≤ j := by
  induction j with
  | zero => exact Nat.le_refl 0
  | succ j ih => unfold dcountK; split <;> omega
theorem last_of {l : List St} {L : Nat} (h : l.length = L + 1) : l.getLast?.getD St.zero = l[L]'(by omega) := by
  have hL : L < l.length := by omega
  have e : l.getLast? = some (l[L]'hL) := by
    rw [List.getLast?_eq_getElem?]
    have e2 : l.length - 1 = L := by omega
    rw [e2]
    exact List.getElem?_eq_getElem hL
  rw [e]
  rfl

set_option maxRecDepth 100000 in
set_option maxHeartbeats 8000000 in
theorem dflows_any (d : Doc) (g gl : Nat) (w : World) (h : DocAt w g gl d) (hst : ∀ i, i < d.cs.length → StsAt w (d.at_ i).sv (d.at_ i).sts) (hfine : ∀ i, i < d.cs.length → (d.at_ i).fine) (hl8 : d.cs.length ≤ 8) :
    Calls Tryz.prog 27 #[.pointer (some ⟨g, 0, none⟩)] w fun e w' => ∃ v, e = .returned v ∧ w'.ownsRow w.heap.size 69 7 v (dcountK d d.cs.length) (dflowsK d d.cs.length) ∧ Below w.heap.size w w' := by
  have HD := hide h
  have HST := hide hst
  have HF := hide hfine
  obtain ⟨n, hn⟩ : ∃ n, n = d.cs.length := ⟨_, rfl⟩
  have hd3 : w.cell? ⟨g, 3, none⟩ = some (.slice (some ⟨gl, 0, none⟩) n n) := by rw [hn]; exact block_cell h.head 3
  rw [← hn] at hl8 ⊢
  have Hn := hide hn
  have hgw := block_lt h.head
  have hlw := block_lt h.rows
  obtain ⟨i0, hi, hz0, hz1, hz2⟩ := info_parts infoFl
  clear h hst hfine hn
  go_enter Tryz.func27, Tryz.ntmps27
  go_wp2_with fail
  go_loopw [3, 4] (fun v i wr => ∃ j : Nat, j ≤ n ∧ i = .int .i64 j ∧ wr.ownsRow w.heap.size 69 7 v (dcountK d j) (dflowsK d j) ∧ Below w.heap.size w wr ∧ w.heap.size ≤ wr.heap.size) (fun _ i _ => n - (intOf i).toNat)
  case atStart => exact ⟨0, by omega, rfl, World.ownsRow_nil _ _ _ _, Below.refl _ _, Nat.le_refl _⟩
  case round =>
    obtain ⟨j, hj, rfl, hown, hbel, hz⟩ := hrel
    clear hd3
    have hD := unhide HD
    have hDr : DocAt wr g gl d := ⟨by rw [hbel.block g hgw]; exact hD.head, by rw [hbel.block gl hlw]; exact hD.rows, hD.sl⟩
    have hd3 : wr.cell? ⟨g, 3, none⟩ = some (.slice (some ⟨gl, 0, none⟩) n n) := by
      have := block_cell hDr.head 3
      rw [← unhide Hn] at this
      exact this
    by_cases hlt : j < n
    · have hjd : j < d.cs.length := by rw [← unhide Hn]; exact hlt
      have j0 : (0 : Int) ≤ (j : Int) := by omega
      have j1 : (j : Int) < (n : Int) := by omega
      obtain ⟨x, hx⟩ : ∃ x, d.at_ j = x := ⟨_, rfl⟩
      have xf := unhide HF j hjd
      have xs := unhide HST j hjd
      rw [hx] at xf xs
      obtain ⟨x0, x1, x2, x3, x4, x5, x6, x7, x8, x9, x10, x11, x12⟩ := hDr.cells hjd hx
      have hglr : gl < wr.heap.size := block_lt hDr.rows
      have hgr : g < wr.heap.size := block_lt hDr.head
      have hcl := dcountK_le d j
      have HOW := hide hown
      have HB := hide hbel
      have HDr := hide hDr
      have Hx := hide hx
      clear hown hbel hDr hx hD
      by_cases hgo : x.has = true ∧ x.sts ≠ []
      · have E1 := hide (show dflowsK d (j + 1) = dflowsK d j ++ (dflowV j x).toList by simp only [dflowsK]; rw [unhide Hx, if_pos hgo])
        have E2 := hide (show dcountK d (j + 1) = dcountK d j + 1 by simp only [dcountK]; rw [unhide Hx, if_pos hgo])
        obtain ⟨hhas, hne⟩ := hgo
        rcases xs with ⟨h1, _⟩ | ⟨q, o, cap, hsv, hcap, hcap2, hr⟩
        · exact absurd h1 hne
        · obtain ⟨L, hL⟩ : ∃ L, x.sts.length = L + 1 := ⟨x.sts.length - 1, by have := List.length_pos_iff.2 hne; omega⟩
          have hlast := last_of hL
          have hrL := hr L (by omega)
          have sok : (x.sts[L]'(by omega)).ok := xf.sts _ (List.getElem_mem _)
          obtain ⟨st, hstt⟩ : ∃ st, st = x.sts[L]'(by omega) := ⟨_, rfl⟩
          rw [← hstt] at hlast hrL sok
          rw [hL] at hsv
          rw [hsv] at x5
          rw [hhas] at x0
          have kc : ∀ (k : Nat) (v : Value), st.flat.toList[k]? = some v → wr.cell? ⟨q, o + L * 5 + k, none⟩ = some v := fun k v hv => keep_cell (hrL k v hv) (unhide HB)
          have s0 : wr.cell? ⟨q, o + L * 5, none⟩ = some (.int .i64 st.seq) := kc 0 _ rfl
          have s1 : wr.cell? ⟨q, o + L * 5 + 1, none⟩ = some (.int .i64 st.stride) := kc 1 _ rfl
          have s2 : wr.cell? ⟨q, o + L * 5 + 2, none⟩ = some (.int .i64 st.offset) := kc 2 _ rfl
          have s3 : wr.cell? ⟨q, o + L * 5 + 3, none⟩ = some (.int .i64 st.lag) := kc 3 _ rfl
          have s4 : wr.cell? ⟨q, o + L * 5 + 4, none⟩ = some (.int .i64 st.flags) := kc 4 _ rfl
          have hqr : q < wr.heap.size := by
            by_cases h2 : q < wr.heap.size
            · exact h2
            · simp [World.cell?, Array.getElem?_eq_none (Nat.le_of_not_lt h2)] at s0
          have HwL := hide (show wrap64 (L : Int) = (L : Int) by unfold wrap64; omega)
          have L0 : (0 : Int) ≤ (L : Int) := by omega
          have LI : (L : Int) < (L : Int) + 1 := by omega
          have tb := xf.turn
          have sb := sok.seq
          have nb := xf.sent
          have w1 : IntKind.u8.wrap (j : Int) = (j : Int) := by rw [IntKind.wrap_u8]; omega
          have w2 : IntKind.u8.wrap (x.turn : Int) = (x.turn : Int) := by rw [IntKind.wrap_u8]; omega
          have w3 : IntKind.u16.wrap (st.seq : Int) = (st.seq : Int) := by rw [IntKind.wrap_u16]; omega
          have hfv : dflowV j x = #[.int .u8 (j : Int), .int .u8 (x.turn : Int), .int .u32 (x.src : Int), .int .u32 (x.dst : Int), .int .u16 (x.port : Int), .int .u16 (st.seq : Int), .int .i64 ((x.sent : Int) + (x.missed : Int))] := by
            unfold dflowV
            rw [hlast, Int.natCast_add]
          have Hfv := hide hfv
          clear hlast hr hrL sok hstt hL hsv kc hcap hcap2 hne xf hfv
          have hwL := unhide HwL
          go_upto_region 8 with fail
          clear hwL
          have G1 := block_alloc (heap_alloc_new wr (.cells #[.bool true, .int .u32 (x.src : Int), .int .u32 (x.dst : Int), .int .u16 (x.port : Int), .int .i64 (x.turn : Int), .slice (some ⟨q, o, none⟩) (L + 1) cap, .int .i64 (x.time : Int), .int .i64 (x.whole : Int), .int .i64 (x.full : Int), .int .i64 (x.age : Int), .int .i64 (x.last : Int), .int .i64 (x.sent : Int), .int .i64 (x.missed : Int)] 126)) (.cells #[.int .i64 (st.seq : Int), .int .i64 (st.stride : Int), .int .i64 (st.offset : Int), .int .i64 (st.lag : Int), .int .i64 (st.flags : Int)] 128)
          have G2 := heap_alloc_new (wr.alloc (.cells #[.bool true, .int .u32 (x.src : Int), .int .u32 (x.dst : Int), .int .u16 (x.port : Int), .int .i64 (x.turn : Int), .slice (some ⟨q, o, none⟩) (L + 1) cap, .int .i64 (x.time : Int), .int .i64 (x.whole : Int), .int .i64 (x.full : Int), .int .i64 (x.age : Int), .int .i64 (x.last : Int), .int .i64 (x.sent : Int), .int .i64 (x.missed : Int)] 126)) (.cells #[.int .i64 (st.seq : Int), .int .i64 (st.stride : Int), .int .i64 (st.offset : Int), .int .i64 (st.lag : Int), .int .i64 (st.flags : Int)] 128)
          have b2 : Below wr.heap.size wr ((wr.alloc (.cells #[.bool true, .int .u32 (x.src : Int), .int .u32 (x.dst : Int), .int .u16 (x.port : Int), .int .i64 (x.turn : Int), .slice (some ⟨q, o, none⟩) (L + 1) cap, .int .i64 (x.time : Int), .int .i64 (x.whole : Int), .int .i64 (x.full : Int), .int .i64 (x.age : Int), .int .i64 (x.last : Int), .int .i64 (x.sent : Int), .int .i64 (x.missed : Int)] 126)).alloc (.cells #[.int .i64 (st.seq : Int), .int .i64 (st.stride : Int), .int .i64 (st.offset : Int), .int .i64 (st.lag : Int), .int .i64 (st.flags : Int)] 128)) := ((Below.refl _ _).alloc (Nat.le_refl _) _).alloc (by simp) _
          have hown := own_keep (unhide HOW) b2
          have B2 := grew_call (unhide HB) b2
          have hg2 : (wr.alloc (.cells #[.bool true, .int .u32 (x.src : Int), .int .u32 (x.dst : Int), .int .u16 (x.port : Int), .int .i64 (x.turn : Int), .slice (some ⟨q, o, none⟩) (L + 1) cap, .int .i64 (x.time : Int), .int .i64 (x.whole : Int), .int .i64 (x.full : Int), .int .i64 (x.age : Int), .int .i64 (x.last : Int), .int .i64 (x.sent : Int), .int .i64 (x.missed : Int)] 126)).heap.size = wr.heap.size + 1 := by simp
          rw [hg2] at G2
          clear x0 x1 x2 x3 x4 x5 x6 x7 x8 x9 x10 x11 x12 s0 s1 s2 s3 s4 hd3 b2 hg2 HOW HB
          generalize (wr.alloc (.cells #[.bool true, .int .u32 (x.src : Int), .int .u32 (x.dst : Int), .int .u16 (x.port : Int), .int .i64 (x.turn : Int), .slice (some ⟨q, o, none⟩) (L + 1) cap, .int .i64 (x.time : Int), .int .i64 (x.whole : Int), .int .i64 (x.full : Int), .int .i64 (x.age : Int), .int .i64 (x.last : Int), .int .i64 (x.sent : Int), .int .i64 (x.missed : Int)] 126)).alloc (.cells #[.int .i64 (st.seq : Int), .int .i64 (st.stride : Int), .int .i64 (st.offset : Int), .int .i64 (st.lag : Int), .int .i64 (st.flags : Int)] 128) = w2 at G1 G2 hown B2 ⊢
          have y1 : w2.cell? ⟨wr.heap.size, 1, none⟩ = some (.int .u32 (x.src : Int)) := block_cell G1 1
          have y2 : w2.cell? ⟨wr.heap.size, 2, none⟩ = some (.int .u32 (x.dst : Int)) := block_cell G1 2
          have y3 : w2.cell? ⟨wr.heap.size, 3, none⟩ = some (.int .u16 (x.port : Int)) := block_cell G1 3
          have y4 : w2.cell? ⟨wr.heap.size, 4, none⟩ = some (.int .i64 (x.turn : Int)) := block_cell G1 4
          have y11 : w2.cell? ⟨wr.heap.size, 11, none⟩ = some (.int .i64 (x.sent : Int)) := block_cell G1 11
          have y12 : w2.cell? ⟨wr.heap.size, 12, none⟩ = some (.int .i64 (x.missed : Int)) := block_cell G1 12
          have t0 : w2.cell? ⟨wr.heap.size + 1, 0, none⟩ = some (.int .i64 (st.seq : Int)) := block_cell G2 0
          have hz2' : w.heap.size ≤ w2.heap.size := B2.size
          have nbI : (x.sent : Int) + (x.missed : Int) ≤ 9223372036854775807 := by omega
          have HB2 := hide B2
          have hcl7 : dcountK d j + 1 ≤ maxLen := by unfold maxLen; omega
          have hcl8 : (dcountK d j + 1) * 32 ≤ 140737488355328 := by omega
          have hcl9 : ∀ O : Obj, w.heap.size ≤ (w2.alloc O).heap.size := fun O => by simp; omega
          clear G1 G2 B2
          have hwN : wrap64 ((x.sent : Int) + (x.missed : Int)) = (x.sent : Int) + (x.missed : Int) := by unfold wrap64; omega
          go_wp2_with (at_builtin; refine wpList_append_own _ rfl _ _ 70 rfl w.heap.size 69 i0 _ 7 32 Tryz.underlying70 hi hz0 hz1 hz2 rfl (by decide) _ _ _ rfl (hown.alloc _) ⟨w2.heap.size, 0, none⟩ 1 1 [.int .u8 (j : Int), .int .u8 (x.turn : Int), .int .u32 (x.src : Int), .int .u32 (x.dst : Int), .int .u16 (x.port : Int), .int .u16 (st.seq : Int), .int .i64 ((x.sent : Int) + (x.missed : Int))] rfl rfl ?c1 ?c2 ?c3 ?c4 ?c5 ?_)
          case c1 =>
            intro i u hu
            rw [Addr.add_mid, Nat.zero_add, block_cell (heap_alloc_new w2 _)]
            simpa using hu
          case c2 =>
            intro u hu
            have := dflowV_one j x u (by rw [unhide Hfv]; exact hu)
            exact this
          case c3 => exact hcl7
          case c4 => exact hcl8
          case c5 => exact hcl9 _
          clear hwN
          intro v' w3 hown3 hgrow3 _
          have R2 : Below w.heap.size w w3 := ((unhide HB2).alloc hz2' _).grown hgrow3 (by simp; omega) (fun k hk => (hown.lt k hk).1)
          have R4 : w.heap.size ≤ w3.heap.size := R2.size
          have H1 := hide hown3
          have H2 := hide R2
          clear hown hown3 hgrow3 HB2 R2 y1 y2 y3 y4 y11 y12 t0
          go_wp2
          go_roundw
          case rel => exact ⟨j + 1, by omega, by go_num, by rw [unhide E1, unhide E2, unhide Hfv]; exact unhide H1, unhide H2, R4⟩
          case measure => simp [intOf]; omega
      · have E1 := hide (show dflowsK d (j + 1) = dflowsK d j by simp only [dflowsK]; rw [unhide Hx, if_neg hgo, List.append_nil])
        have E2 := hide (show dcountK d (j + 1) = dcountK d j by simp only [dcountK]; rw [unhide Hx, if_neg hgo]; rfl)
        obtain ⟨va, vl, vc, hsv, hvl⟩ : ∃ va vl vc, x.sv = .slice va vl vc ∧ vl = x.sts.length := by
          rcases xs with ⟨h1, h2⟩ | ⟨q, o, cap, hsv, _⟩
          · exact ⟨none, 0, 0, h2, by rw [h1]; rfl⟩
          · exact ⟨_, _, _, hsv, rfl⟩
        rw [hsv] at x5
        have hcase : x.has = false ∨ (x.has = true ∧ vl = 0) := by
          cases hh : x.has with
          | false => exact Or.inl rfl
          | true =>
            right
            refine ⟨rfl, ?_⟩
            have : x.sts = [] := by
              by_cases e : x.sts = []
              · exact e
              · exact absurd ⟨hh, e⟩ hgo
            rw [hvl, this]
            rfl
        clear hsv hvl xs xf hgo
        rcases hcase with hh | ⟨hh, rfl⟩
        all_goals
          rw [hh] at x0
          go_wp2_with fail
          go_roundw
          case rel => exact ⟨j + 1, by omega, by go_num, by rw [unhide E1, unhide E2]; exact (unhide HOW).alloc _, grew_alloc (unhide HB) _, by simp; omega⟩
          case measure => simp [intOf]; omega
    · have e : j = n := by omega
      subst e
      have HO := hide hown
      have HB := hide hbel
      clear hown hbel hDr hD
      go_wp2_with fail
      go_ret
      exact ⟨_, rfl, unhide HO, unhide HB⟩

end Go.Proofs.YtgpojbgjfibblabGreat.texts
