/-
  The walk of the document's kind (package gistref).
  Conditions stand in each theorem.
-/
import Derived.Test.YtgpojbgjfibblabGreatJoinRefKept
namespace Go.Proofs.YtgpojbgjfibblabGreat.texts
open Go.RowKit
set_option linter.unusedVariables false
attribute [local go_sem ↓] Go.wp_at_zero Go.wp_at_succ

def kindV (whole full age refresh : Nat) (n : St) (L : List St) : Nat := if 0 < whole ∨ refresh ≤ age + 1 then 3 else if 0 < full then 2 else mostN n L
theorem infoRc : (Tryz.prog.info? 126).map (·.size) = some 13 := by kernel_rfl

theorem range_keep {w1 w2 : World} {q o : Nat} {cs : List Value} (h : w1.rangeAt q o cs) (hb : Below w1.heap.size w1 w2) : w2.rangeAt q o cs := fun j v hv => keep_cell (h j v hv) hb
theorem StsAt.keep {w1 w2 : World} {v : Value} {l : List St} (h : StsAt w1 v l) (hb : Below w1.heap.size w1 w2) : StsAt w2 v l := by
  rcases h with h | ⟨q, o, cap, h1, h2, h3, h4⟩
  · exact Or.inl h
  · exact Or.inr ⟨q, o, cap, h1, h2, h3, fun i hi => range_keep (h4 i hi) hb⟩

/-- the next state, and the states that are kept, in memory -/
structure InK (w : World) (n : St) (q o : Nat) (L : List St) (w1 : World) : Prop where
  two : w1.heap[w.heap.size + 1]? = some (.cells n.flat 128 (0, 0))
  sts : ∀ i (h : i < L.length), w1.rangeAt q (o + i * 5) (L[i]).flat.toList
  low : w.heap.size ≤ w1.heap.size
  below : Below w.heap.size w w1
theorem InK.call {w w1 w2 : World} {n : St} {q o : Nat} {L : List St} (h : InK w n q o L w1) (hb : Below w1.heap.size w1 w2) : InK w n q o L w2 :=
  ⟨block_keep h.two hb, fun i hi => range_keep (h.sts i hi) hb, Nat.le_trans h.low hb.size, keep_below h.below hb h.low⟩
theorem InK.drew {w w1 : World} {n : St} {q o : Nat} {L : List St} (h : InK w n q o L w1) : InK w n q o L w1.drew :=
  ⟨h.two, fun i hi => by simpa using h.sts i hi, h.low, h.below.drew⟩
theorem InK.out {w w1 : World} {n r : St} {q o j : Nat} {L : List St} (h : InK w n q o L w1) (hj : j < L.length) (hr : L[j] = r) :
    w1.cell? ⟨w.heap.size + 1, 0, none⟩ = some (.int .i64 n.seq) ∧ w1.cell? ⟨w.heap.size + 1, 1, none⟩ = some (.int .i64 n.stride) ∧ w1.cell? ⟨w.heap.size + 1, 2, none⟩ = some (.int .i64 n.offset) ∧ w1.cell? ⟨w.heap.size + 1, 3, none⟩ = some (.int .i64 n.lag) ∧ w1.cell? ⟨w.heap.size + 1, 4, none⟩ = some (.int .i64 n.flags) ∧ w1.cell? ⟨q, o + j * 5, none⟩ = some (.int .i64 r.seq) ∧ w1.cell? ⟨q, o + j * 5 + 1, none⟩ = some (.int .i64 r.stride) ∧ w1.cell? ⟨q, o + j * 5 + 2, none⟩ = some (.int .i64 r.offset) ∧ w1.cell? ⟨q, o + j * 5 + 3, none⟩ = some (.int .i64 r.lag) ∧ w1.cell? ⟨q, o + j * 5 + 4, none⟩ = some (.int .i64 r.flags) ∧ InK w n q o L w1 := by
  have g := h.sts j hj
  rw [hr] at g
  refine ⟨?_, ?_, ?_, ?_, ?_, g 0 _ rfl, g 1 _ rfl, g 2 _ rfl, g 3 _ rfl, g 4 _ rfl, h⟩
  all_goals (rw [block_cell h.two]; rfl)

set_option maxRecDepth 100000 in
set_option maxHeartbeats 2000000 in
theorem rkind_any (X : Array Value) (v : Value) (l : List St) (n : St) (cids keep refresh whole full age : Nat) (w : World) (hs : X.size = 13) (hX : X[5]? = some v) (hX7 : X[7]? = some (.int .i64 whole)) (hX8 : X[8]? = some (.int .i64 full)) (hX9 : X[9]? = some (.int .i64 age))
    (hv : StsAt w v l) (hk : 1 ≤ keep) (hk4 : keep ≤ 4) (hr : refresh ≤ 100) (hr2 : 2 ≤ refresh) (hw : whole ≤ 4) (hf : full ≤ 4) (ha : age < 4611686018427387904) (hn : n.ok) (hl : ∀ s ∈ l, s.ok) :
    Calls Tryz.prog 46 #[.agg X, .agg n.flat, .agg #[.int .i64 cids, .int .i64 keep, .int .i64 refresh]] w fun e w' => e = .returned (.int .i64 (kindV whole full age refresh n (l.drop (l.length - keep)) : Nat)) ∧ Below w.heap.size w w' := by
  have HV := hide hv
  have HN := hide hn
  have HL := hide hl
  have HS := hide hs
  clear hv hn hl hs
  by_cases h1 : 0 < whole
  · have e : kindV whole full age refresh n (l.drop (l.length - keep)) = 3 := by unfold kindV; rw [if_pos (Or.inl h1)]
    rw [e]
    unfold St.flat
    go_enter Tryz.func46, Tryz.ntmps46
    go_wp2
    go_ret
    exact ⟨rfl, (((Below.refl _ _).alloc (Nat.le_refl _) _).alloc (by simp) _).alloc (by simp; omega) _⟩
  · have h1' : whole = 0 := by omega
    subst h1'
    by_cases h2 : refresh ≤ age + 1
    · have e : kindV 0 full age refresh n (l.drop (l.length - keep)) = 3 := by unfold kindV; rw [if_pos (Or.inr h2)]
      rw [e]
      unfold St.flat
      go_enter Tryz.func46, Tryz.ntmps46
      go_wp2
      go_ret
      exact ⟨rfl, (((Below.refl _ _).alloc (Nat.le_refl _) _).alloc (by simp) _).alloc (by simp; omega) _⟩
    · by_cases h3 : 0 < full
      · have e : kindV 0 full age refresh n (l.drop (l.length - keep)) = 2 := by unfold kindV; rw [if_neg (by omega), if_pos h3]
        rw [e]
        unfold St.flat
        go_enter Tryz.func46, Tryz.ntmps46
        go_wp2
        go_ret
        exact ⟨rfl, (((Below.refl _ _).alloc (Nat.le_refl _) _).alloc (by simp) _).alloc (by simp; omega) _⟩
      · have h3' : full = 0 := by omega
        subst h3'
        obtain ⟨L, hL⟩ : ∃ L, L = l.drop (l.length - keep) := ⟨_, rfl⟩
        have e : kindV 0 0 age refresh n L = mostN n L := by unfold kindV; rw [if_neg (by omega), if_neg (by omega)]
        rw [← hL, e]
        have hLo : ∀ s ∈ L, s.ok := fun s hs => (unhide HL) s (List.mem_of_mem_drop (hL ▸ hs))
        have HLO := hide hLo
        have HLL := hide hL
        clear hLo hL e
        unfold St.flat
        go_enter Tryz.func46, Tryz.ntmps46
        go_wp2_with (first
          | (refine load_whole (ty := 126) rfl (block_alloc (block_alloc (heap_alloc_new w _) _) _) Tryz.underlying126 rfl (by rw [infoRc, unhide HS]) ?_)
          | (go_at_call 48; refine Stop.out ?_))
        refine ⟨?_⟩
        have hW := (((Below.refl w.heap.size w).alloc (Nat.le_refl _) (.cells X 126)).alloc (by simp) (.cells n.flat 128)).alloc (by simp; omega) (.cells #[.int .i64 cids, .int .i64 keep, .int .i64 refresh] 23)
        have hW2 := second_alloc w (.cells X 126) (.cells n.flat 128) (.cells #[.int .i64 cids, .int .i64 keep, .int .i64 refresh] 23)
        refine (rkept_any X v l keep _ hX ((unhide HV).keep hW) hk hk4).mono ?_
        rintro e w1 ⟨v', rfl, hv', hb1⟩
        rw [← unhide HLL] at hv'
        have hB1 := keep_below hW hb1 (by simp; omega)
        have hT1 := block_keep hW2 hb1
        have hv1 := hv'.keep hb1
        clear hv' hb1 hW hW2 HV hX
        have HB1 := hide hB1
        have HT1 := hide hT1
        clear hB1 hT1
        rcases hv1 with ⟨rfl, rfl⟩ | ⟨q, o, cap, rfl, hc1, hc2, hr1⟩
        · go_wp2_with fail
          go_loopw [8, 9] (fun bst i wr => i = .int .i64 0 ∧ bst = .int .i64 0 ∧ wr = w1) (fun _ _ _ => 0)
          case atStart => exact ⟨rfl, rfl, rfl⟩
          case round =>
            obtain ⟨rfl, rfl, rfl⟩ := hrel
            go_wp2
            go_ret
            exact ⟨rfl, unhide HB1⟩
        · have HI := hide (⟨unhide HT1, hr1, (unhide HB1).size, unhide HB1⟩ : InK w n q o L w1)
          clear hr1
          go_wp2_with fail
          go_loopw [8, 9] (fun bst i wr => ∃ j : Nat, j ≤ L.length ∧ i = .int .i64 j ∧ bst = .int .i64 (mostN n (L.take j) : Nat) ∧ mostN n (L.take j) ≤ 1 ∧ InK w n q o L wr) (fun _ i _ => L.length - (intOf i).toNat)
          case atStart => exact ⟨0, by omega, rfl, rfl, by simp [mostN], unhide HI⟩
          case round =>
            obtain ⟨j, hj, rfl, rfl, hle, hT⟩ := hrel
            clear HI HB1 HT1
            have HT := hide hT
            clear hT
            by_cases hlt : j < L.length
            · obtain ⟨r, hr⟩ : ∃ r, r = L[j] := ⟨_, rfl⟩
              have hro : r.ok := by rw [hr]; exact (unhide HLO) _ (List.getElem_mem hlt)
              have HM := hide (most_snoc n L j hlt)
              have HG := hide (most_ge n L j hlt)
              have HND := hide (needs_is n r)
              have HRO := hide hro
              have HR := hide hr.symm
              clear hro hr
              have i0 : (0 : Int) ≤ (j : Int) := by omega
              have i1 : (j : Int) < (L.length : Int) := by omega
              generalize mostN n (L.take j) = B at *
              go_upto_region 10 with fail
              go_cut [10] (fun t wx => t = .bool (tinyB n r) ∧ InK w n q o L wx)
              case first =>
                have HQ := hide (unhide HT).drew
                go_region_held3 (fun w' => w'.cell? ⟨w.heap.size + 1, 0, none⟩ = some (.int .i64 n.seq) ∧ w'.cell? ⟨w.heap.size + 1, 1, none⟩ = some (.int .i64 n.stride) ∧ w'.cell? ⟨w.heap.size + 1, 2, none⟩ = some (.int .i64 n.offset) ∧ w'.cell? ⟨w.heap.size + 1, 3, none⟩ = some (.int .i64 n.lag) ∧ w'.cell? ⟨w.heap.size + 1, 4, none⟩ = some (.int .i64 n.flags) ∧ w'.cell? ⟨q, o + j * 5, none⟩ = some (.int .i64 r.seq) ∧ w'.cell? ⟨q, o + j * 5 + 1, none⟩ = some (.int .i64 r.stride) ∧ w'.cell? ⟨q, o + j * 5 + 2, none⟩ = some (.int .i64 r.offset) ∧ w'.cell? ⟨q, o + j * 5 + 3, none⟩ = some (.int .i64 r.lag) ∧ w'.cell? ⟨q, o + j * 5 + 4, none⟩ = some (.int .i64 r.flags) ∧ InK w n q o L w')
                  ((first | (exact (unhide HT).drew.out hlt (unhide HR)) | (exact (unhide (by assumption : Hid (InK w n q o L _))).out hlt (unhide HR))))
                  ((go_at_call 79; refine (rtiny_any n r _ (unhide HN) (unhide HRO)).mono ?_; rintro e w2 ⟨rfl, hbel⟩; have HQ2 := hide (InK.call (unhide (by assumption : Hid (InK w n q o L _))) hbel)))
                all_goals go_split_ands
                all_goals (have HT2 := hide ‹InK w n q o L _›)
                all_goals go_wp2_with fail
                all_goals go_meet
                all_goals (case rel => exact ⟨rfl, unhide HT2⟩)
              case rest =>
                obtain ⟨rfl, hT3⟩ := hcut
                clear HT
                have HT3 := hide hT3
                clear hT3
                go_upto_region 11 with fail
                go_cut [11] (fun t wx => t = .bool (shortB n r) ∧ InK w n q o L wx)
                case first =>
                  have HQ := hide (unhide HT3).drew
                  go_region_held3 (fun w' => w'.cell? ⟨w.heap.size + 1, 0, none⟩ = some (.int .i64 n.seq) ∧ w'.cell? ⟨w.heap.size + 1, 1, none⟩ = some (.int .i64 n.stride) ∧ w'.cell? ⟨w.heap.size + 1, 2, none⟩ = some (.int .i64 n.offset) ∧ w'.cell? ⟨w.heap.size + 1, 3, none⟩ = some (.int .i64 n.lag) ∧ w'.cell? ⟨w.heap.size + 1, 4, none⟩ = some (.int .i64 n.flags) ∧ w'.cell? ⟨q, o + j * 5, none⟩ = some (.int .i64 r.seq) ∧ w'.cell? ⟨q, o + j * 5 + 1, none⟩ = some (.int .i64 r.stride) ∧ w'.cell? ⟨q, o + j * 5 + 2, none⟩ = some (.int .i64 r.offset) ∧ w'.cell? ⟨q, o + j * 5 + 3, none⟩ = some (.int .i64 r.lag) ∧ w'.cell? ⟨q, o + j * 5 + 4, none⟩ = some (.int .i64 r.flags) ∧ InK w n q o L w')
                    ((first | (exact (unhide HT3).drew.out hlt (unhide HR)) | (exact (unhide (by assumption : Hid (InK w n q o L _))).out hlt (unhide HR))))
                    ((go_at_call 80; refine (rshort_any n r _ (unhide HN) (unhide HRO)).mono ?_; rintro e w2 ⟨rfl, hbel⟩; have HQ2 := hide (InK.call (unhide (by assumption : Hid (InK w n q o L _))) hbel)))
                  all_goals go_split_ands
                  all_goals (have HT2 := hide ‹InK w n q o L _›)
                  all_goals go_wp2_with fail
                  all_goals go_meet
                  all_goals (case rel => exact ⟨rfl, unhide HT2⟩)
                case rest =>
                  obtain ⟨rfl, hT4⟩ := hcut
                  clear HT3
                  have HT4 := hide hT4
                  clear hT4
                  have HTS := hide (fun h => tiny_short (n := n) (r := r) h)
                  have HLE := hide (most_le n L)
                  cases ht : tinyB n r with
                  | true =>
                    have hs := (unhide HTS) ht
                    have e1 : needsN n r = 0 := by rw [unhide HND, if_pos ht]
                    have HE := hide e1
                    rw [hs]
                    clear e1 ht hs
                    go_wp2
                    go_roundw
                    case rel => exact ⟨j + 1, by omega, by go_num, by rw [unhide HM, unhide HR, unhide HE, Nat.max_eq_left (by omega)], by rw [unhide HM, unhide HR, unhide HE]; omega, unhide HT4⟩
                    case measure => simp [intOf]; omega
                  | false =>
                    cases hs : shortB n r with
                    | true =>
                      have e1 : needsN n r = 1 := by rw [unhide HND, if_neg (by rw [ht]; decide), if_pos hs]
                      have HE := hide e1
                      clear e1 ht hs
                      obtain rfl | rfl : B = 0 ∨ B = 1 := by omega
                      all_goals go_wp2
                      all_goals
                        go_roundw
                        case rel => exact ⟨j + 1, by omega, by go_num, by rw [unhide HM, unhide HR, unhide HE]; rfl, by rw [unhide HM, unhide HR, unhide HE]; omega, unhide HT4⟩
                        case measure => simp [intOf]; omega
                    | false =>
                      have e1 : needsN n r = 2 := by rw [unhide HND, if_neg (by rw [ht]; decide), if_neg (by rw [hs]; decide)]
                      have e2 : mostN n L = 2 := by have g := unhide HG; rw [unhide HR, e1] at g; have := unhide HLE; omega
                      have HE := hide e2
                      clear e1 e2 ht hs
                      obtain rfl | rfl : B = 0 ∨ B = 1 := by omega
                      all_goals go_wp2
                      all_goals go_ret
                      all_goals exact ⟨ret_int (by rw [unhide HE]; rfl), (unhide HT4).below⟩
            · have e : j = L.length := by omega
              subst e
              have HF := hide (show mostN n (L.take L.length) = mostN n L by rw [List.take_length])
              generalize mostN n (L.take L.length) = B at *
              go_wp2
              go_ret
              exact ⟨ret_int (by rw [unhide HF]), (unhide HT).below⟩

end Go.Proofs.YtgpojbgjfibblabGreat.texts
