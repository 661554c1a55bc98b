/-
  The walks of the program's receiver: Flows, and New of no configuration; a world's receiver in plain numbers. A receiver's two ends and the world that holds them (package gistlaw), in memory and in plain numbers.
  Conditions stand in each theorem.
-/
import Derived.Test.YtgpojbgjfibblabGreatTakeAny
import Derived.Test.YtgpojbgjfibblabGreatNoConf
import Derived.Test.YtgpojbgjfibblabGreatJoinBookH
import Derived.Test.YtgpojbgjfibblabGreatJoinSendsWalk
import Derived.Test.YtgpojbgjfibblabGreatDocTake
namespace Go.Proofs.YtgpojbgjfibblabGreat.texts
open Go.RowKit
set_option linter.unusedVariables false
attribute [local go_sem ↓] Go.wp_at_zero Go.wp_at_succ
attribute [local go_sem ↓] loadRx_eq
attribute [local go_sem] run_loadRx

def rflowV (cid : Nat) (c : Rx) : Array Value := #[.int .u8 cid, .int .u8 c.turn, .int .u32 c.src, .int .u32 c.dst, .int .u16 c.port, .int .u16 c.st.seq, .int .i64 c.missed]
def rflowsK (m : Rcv) : Nat → List Value
  | 0 => []
  | j + 1 => rflowsK m j ++ (if (m.at_ j).begun = true then (rflowV j (m.at_ j)).toList else [])
def rcountK (m : Rcv) : Nat → Nat
  | 0 => 0
  | j + 1 => rcountK m j + (if (m.at_ j).begun = true then 1 else 0)
theorem rcountK_le (m : Rcv) (j : Nat) : rcountK m j ≤ j := by
  induction j with
  | zero => exact Nat.le_refl 0
  | succ j ih => unfold rcountK; split <;> omega
theorem rflowV_one (i : Nat) (c : Rx) : ∀ u ∈ (rflowV i c).toList, u.oneCell' = true := by
  intro u hu
  simp only [rflowV, List.mem_cons, List.not_mem_nil, or_false] at hu
  rcases hu with h | h | h | h | h | h | h <;> (subst h; rfl)
theorem rflows_rows (m : Rcv) (j : Nat) : FlRows (rcountK m j) (rflowsK m j) ∧ (rflowsK m j).length = rcountK m j * 7 := by
  induction j with
  | zero => exact ⟨fun k hk => by simp [rcountK] at hk, rfl⟩
  | succ j ih =>
    unfold rflowsK rcountK
    by_cases h : (m.at_ j).begun = true
    · rw [if_pos h, if_pos h]
      exact ⟨ih.1.snoc ih.2 _ _ _ _ _ _ _, by rw [List.length_append, ih.2, show (rflowV j (m.at_ j)).toList.length = 7 from rfl]; omega⟩
    · rw [if_neg h, if_neg h, List.append_nil]
      exact ih
theorem RcvAt.cell {w : World} {b : Nat} {m : Rcv} (h : RcvAt w b m) (i j : Nat) (hi : i < m.cs.length) (hj : j < 11) : w.cell? ⟨b, 1 + i * 11 + j, none⟩ = (m.at_ i).cells[j]? := by
  rw [block_cell h, Nat.mul_comm i 11]
  exact Rcv.get m i j hi hj
theorem RcvAt.rxIn {w : World} {b : Nat} {m : Rcv} (h : RcvAt w b m) (i : Nat) (hi : i < m.cs.length) : RxIn w b (1 + i * 11) := ⟨_, _, _, h, by rw [Rcv.cells_size]; omega⟩
theorem RcvAt.rxOf {w : World} {b : Nat} {m : Rcv} (h : RcvAt w b m) (i : Nat) (hi : i < m.cs.length) : rxOf w b (1 + i * 11) = (m.at_ i).cells := by
  have h' : w.heap[b]? = some (.cells m.cells 91 (0, 0)) := h
  unfold texts.rxOf
  rw [h']
  simp only
  apply Array.ext_getElem?
  intro k
  rw [List.getElem?_toArray, List.getElem?_take]
  by_cases hk : k < 11
  · rw [if_pos hk, List.getElem?_drop, Array.getElem?_toList, Nat.mul_comm i 11, Rcv.get m i k hi hk]
  · rw [if_neg hk, Array.getElem?_eq_none (by rw [Rx.cells_size]; omega)]

set_option maxRecDepth 100000 in
set_option maxHeartbeats 2000000 in
theorem rcflow_any (c : Rx) (cid : Nat) (w : World) (h : cid < 8) (hc : c.missed < 256) :
    Calls Tryz.prog 86 #[.agg c.cells, .int .i64 cid] w fun e w' => e = .returned (.agg (rflowV cid c)) ∧ Below w.heap.size w w' := by
  obtain ⟨C, hC⟩ : ∃ C, C = c.cells := ⟨_, rfl⟩
  have e1 : C[1]? = some (.int .u32 c.src) := by rw [hC]; rfl
  have e2 : C[2]? = some (.int .u32 c.dst) := by rw [hC]; rfl
  have e3 : C[3]? = some (.int .u16 c.port) := by rw [hC]; rfl
  have e4 : C[4]? = some (.int .u8 c.turn) := by rw [hC]; rfl
  have e5 : C[5]? = some (.int .u16 c.st.seq) := by rw [hC]; rfl
  have e10 : C[10]? = some (.int .u8 c.missed) := by rw [hC]; rfl
  have hw := wrap8 (show cid < 256 by omega)
  have hw2 : IntKind.i64.wrap (c.missed : Int) = (c.missed : Int) := by rw [IntKind.wrap_i64]; omega
  rw [← hC]
  clear hC
  go_enter Tryz.func86, Tryz.ntmps86
  go_wp2
  exact bodyPost_ret (v := .agg (rflowV cid c)) (by simp [results, Tryz.results86, go_sem, rflowV]) rfl ⟨rfl, ((Below.refl _ _).alloc (Nat.le_refl _) _).alloc (by simp) _⟩

set_option maxRecDepth 100000 in
set_option maxHeartbeats 4000000 in
theorem rflows_any (m : Rcv) (b : Nat) (w : World) (hm : m.ok) (h : RcvAt w b m) :
    Calls Tryz.prog 52 #[.pointer (some ⟨b, 0, none⟩)] w fun e w' => ∃ v, e = .returned v ∧ w'.ownsRow w.heap.size 69 7 v (rcountK m 8) (rflowsK m 8) ∧ Below w.heap.size w w' := by
  have hl := hm.len
  have HMM := hide hm
  have H := hide h
  have hbw : b < w.heap.size := block_lt h
  obtain ⟨i0, hi, hz0, hz1, hz2⟩ := info_parts infoFl
  clear h hm
  go_enter Tryz.func52, Tryz.ntmps52
  go_wp2_with fail
  go_loopw [3, 4] (fun v i wr => ∃ j : Nat, j ≤ 8 ∧ i = .int .i64 j ∧ wr.ownsRow w.heap.size 69 7 v (rcountK m j) (rflowsK m j) ∧ RcvAt wr b m ∧ Below w.heap.size w wr ∧ w.heap.size ≤ wr.heap.size) (fun _ i _ => 8 - (intOf i).toNat)
  case atStart => exact ⟨0, by omega, rfl, World.ownsRow_nil _ _ _ _, unhide H, Below.refl _ _, Nat.le_refl _⟩
  case round =>
    obtain ⟨j, hj, rfl, hown, hT, hB, hz⟩ := hrel
    clear H
    by_cases hlt : j < 8
    · have j0 : (0 : Int) ≤ (j : Int) := by omega
      have j1 : (j : Int) < 8 := by omega
      have k0 : wr.cell? ⟨b, 1 + j * 11, none⟩ = some (.bool (m.at_ j).begun) := by have := hT.cell j 0 (by omega) (by omega); exact this
      have hcl := rcountK_le m j
      have HOW := hide hown
      have HT := hide hT
      have HB := hide hB
      have hbl := block_lt hT
      clear hown hT hB
      by_cases hk : (m.at_ j).begun = true
      · have e1 : rflowsK m (j + 1) = rflowsK m j ++ (rflowV j (m.at_ j)).toList := by simp [rflowsK, hk]
        have e2 : rcountK m (j + 1) = rcountK m j + 1 := by simp [rcountK, hk]
        have E1 := hide e1
        have E2 := hide e2
        rw [hk] at k0
        clear e1 e2
        obtain ⟨C, hC⟩ : ∃ C, C = (m.at_ j).cells := ⟨_, rfl⟩
        have x1 := (unhide HT).rxIn j (by omega)
        have x2 : rxOf wr b (1 + j * 11) = C := by rw [hC]; exact (unhide HT).rxOf j (by omega)
        have HC := hide hC
        have hmis : (m.at_ j).missed < 256 := (Rcv.at_ok (unhide HMM) j).missed
        clear hC hk
        go_wp2_with (go_at_call 86; refine Stop.out ?_)
        refine ⟨?_⟩
        rw [unhide HC]
        refine (rcflow_any (m.at_ j) j _ hlt hmis).mono ?_
        rintro e w2 ⟨rfl, hb2⟩
        have hown := own_same (unhide HOW) (fun g hg => by obtain ⟨cur, hc⟩ := own_ty (unhide HOW) hg; exact hb2.block g (block_lt hc))
        have HB2 := hide (keep_below (unhide HB) hb2 hz)
        have HT2 := hide (block_keep (unhide HT) hb2)
        have hz2' : w.heap.size ≤ w2.heap.size := Nat.le_trans hz hb2.size
        clear hb2 HOW HB HT
        clear x1 x2 hmis
        generalize m.at_ j = c at *
        unfold rflowV
        go_wp2_with (at_builtin; refine wpList_append_own _ rfl _ _ 70 rfl w.heap.size 69 i0 _ 7 32 Tryz.underlying70 hi hz0 hz1 hz2 rfl (by decide) _ _ _ rfl (hown.alloc _) ⟨w2.heap.size, 0, none⟩ 1 1 (rflowV j c).toList rfl rfl ?c1 (rflowV_one j c) ?c3 ?c4 ?c5 ?_)
        case c1 =>
          intro i u hu
          have hi7 : i < 7 := by
            have := (List.getElem?_eq_some_iff.1 hu).1
            simpa [rflowV] using this
          rw [Addr.add_mid, Nat.zero_add, block_cell (heap_alloc_new w2 _)]
          have : (rflowV j c)[i]? = some u := by simpa using hu
          exact this
        case c3 => unfold maxLen; omega
        case c4 => omega
        case c5 => simp; omega
        intro v' w3 hown3 hgrow3 _
        have R2 : Below w.heap.size w w3 := ((unhide HB2).alloc hz2' _).grown hgrow3 (by simp; omega) (fun k hk => (hown.lt k hk).1)
        have R3 : RcvAt w3 b m := by
          have hb4 : w3.heap[b]? = _ := hgrow3.block b (by have := block_lt (unhide HT2); simp; omega) (fun e => by have h1 := (hown.lt b e.symm).1; have h2 := hbw; omega)
          rw [RcvAt, hb4]
          exact block_alloc (unhide HT2) _
        have R4 : w.heap.size ≤ w3.heap.size := R2.size
        have H1 := hide hown3
        have H2 := hide R2
        have H3 := hide R3
        clear hown hown3 hgrow3 HB2 R2 R3 HT2
        go_wp2
        go_roundw
        case rel => exact ⟨j + 1, by omega, by go_num, by rw [unhide E1, unhide E2]; exact unhide H1, unhide H3, unhide H2, R4⟩
        case measure => simp [intOf]; omega
      · have hk0 : (m.at_ j).begun = false := by simpa using hk
        have e1 : rflowsK m (j + 1) = rflowsK m j := by simp [rflowsK, hk0]
        have e2 : rcountK m (j + 1) = rcountK m j := by simp [rcountK, hk0]
        have E1 := hide e1
        have E2 := hide e2
        clear e1 e2 hk
        rw [hk0] at k0
        go_wp2
        go_roundw
        case rel => exact ⟨j + 1, by omega, by go_num, by rw [unhide E1, unhide E2]; exact unhide HOW, unhide HT, unhide HB, hz⟩
        case measure => simp [intOf]; omega
    · have e : j = 8 := by omega
      subst e
      have HOW := hide hown
      have HB := hide hB
      clear hown hT hB
      go_wp2
      go_ret
      exact ⟨_, rfl, unhide HOW, unhide HB⟩

set_option maxRecDepth 100000 in
set_option maxHeartbeats 1000000 in
theorem grflows_any (m : Rcv) (b : Nat) (w : World) (hm : m.ok) (h : RcvAt w b m) :
    Calls Tryz.prog 28 #[.pointer (some ⟨b, 0, none⟩)] w fun e w' => ∃ v, e = .returned v ∧ w'.ownsRow w.heap.size 69 7 v (rcountK m 8) (rflowsK m 8) ∧ Below w.heap.size w w' := by
  have HM := hide hm
  have H := hide h
  clear hm h
  go_enter Tryz.func28, Tryz.ntmps28
  go_wp2_with (go_at_call 52; refine (rflows_any m b _ (unhide HM) (unhide H)).mono ?_; rintro e w1 ⟨v, rfl, h1, h2⟩; have HO := hide h1; have HB := hide h2; clear h1 h2)
  go_ret
  exact ⟨_, rfl, unhide HO, unhide HB⟩

theorem built_rcv0 : Tryz.prog.built 87 [] = some (freshR 0).cells := by kernel_rfl
set_option maxRecDepth 100000 in
set_option maxHeartbeats 4000000 in
theorem rnew_no (c k r : Int) (w : World) (h : confB c k r = false) :
    Calls Tryz.prog 21 #[.agg #[.int .i64 c, .int .i64 k, .int .i64 r]] w fun e w' => e = .returned (.tuple #[.agg (freshR 0).cells, .int .i64 6]) ∧ Below w.heap.size w w' := by
  obtain ⟨Z, hZ⟩ : ∃ Z, Z = (freshR 0).cells := ⟨_, rfl⟩
  have zv : ∀ w, (zeroValue 87).run Tryz.prog w = .ok (.agg Z) w := by rw [hZ]; exact (zero_of_info zeroRcv).1
  rw [← hZ]
  have HV := hide (show ∀ w : World, Calls Tryz.prog 41 #[.agg #[.int .i64 c, .int .i64 k, .int .i64 r]] w fun e w' => e = .returned (.bool false) ∧ Below w.heap.size w w' by
    intro w; have := valid_any c k r w; rw [h] at this; exact this)
  have HZ := hide (show ∀ o : Obj, ((w.alloc o).alloc (.cells Z 87)).heap[w.heap.size + 1]? = some (.cells Z 87 (0, 0)) from fun o => by
    have := heap_alloc_new (w.alloc o) (.cells Z 87)
    simpa using this)
  have HB := hide (show Tryz.prog.built 87 [] = some Z by rw [hZ]; exact built_rcv0)
  have RI := hide (show (Tryz.prog.info? 87).map (·.size) = some Z.size by rw [hZ, freshR_size]; exact infoRcv)
  have RO := hide (show Z.all (·.oneCell') = true by rw [hZ]; exact Rcv.cells_one _)
  clear hZ h
  go_enter Tryz.func21, Tryz.ntmps21
  go_wp2_with (first
    | (go_at_call 41; refine (unhide HV _).mono ?_; rintro e w1 ⟨rfl, hb1⟩; have G := hide (block_keep (unhide HZ _) hb1); have W := hide (grew_call (((Below.refl _ _).alloc (Nat.le_refl _) _).alloc (by simp) _) hb1 : Below w.heap.size w w1); clear hb1)
    | (refine build_is (ty := 87) (unhide HB) ?_)
    | (refine store_whole (ty := 87) rfl rfl (unhide G) (unhide RI) rfl (unhide RO) ?_))
  exact ret_whole2 (cs := Z) Tryz.results21 rfl (setRow_heap _ _ _ _ _ _ (unhide G)) Tryz.underlying87 rfl (unhide RI) rfl ⟨rfl, below_setRow (unhide W) (by omega) _⟩

set_option maxRecDepth 100000 in
set_option maxHeartbeats 4000000 in
theorem gnewR_no (c k r : Int) (w : World) (h : confB c k r = false) :
    Calls Tryz.prog 11 #[.agg #[.int .i64 c, .int .i64 k, .int .i64 r]] w fun e w' => e = .returned (.tuple #[.pointer none, .int .i64 6]) ∧ Below w.heap.size w w' := by
  obtain ⟨Z, hZ⟩ : ∃ Z, Z = (freshR 0).cells := ⟨_, rfl⟩
  have zv : ∀ w, (zeroValue 87).run Tryz.prog w = .ok (.agg Z) w := by rw [hZ]; exact (zero_of_info zeroRcv).1
  have HV := hide (show ∀ w : World, Calls Tryz.prog 21 #[.agg #[.int .i64 c, .int .i64 k, .int .i64 r]] w fun e w' => e = .returned (.tuple #[.agg Z, .int .i64 6]) ∧ Below w.heap.size w w' by
    intro w; rw [hZ]; exact rnew_no c k r w h)
  have RI := hide (show (Tryz.prog.info? 87).map (·.size) = some Z.size by rw [hZ, freshR_size]; exact infoRcv)
  have RO := hide (show Z.all (·.oneCell') = true by rw [hZ]; exact Rcv.cells_one _)
  clear hZ h
  go_enter Tryz.func11, Tryz.ntmps11
  go_wp2_with (first
    | (go_at_call 21; refine (unhide HV _).mono ?_; rintro e w1 ⟨rfl, hb1⟩; have W := hide (grew_call ((Below.refl _ _).alloc (Nat.le_refl _) _) hb1); clear hb1)
    | (refine store_new (ty := 87) (old := Z) rfl rfl rfl (unhide RI) rfl (unhide RO) ?_))
  go_ret2
  exact ⟨rfl, grew_alloc (unhide W) _⟩

end Go.Proofs.YtgpojbgjfibblabGreat.texts

namespace Go.Proofs.YtgpojbgjfibblabGreat.texts
open Go.RowKit
set_option linter.unusedVariables false

theorem take_ok2 {y : Rcv} (hy : y.ok) (l : List UInt8) : (takeM y l).ok := by
  unfold takeM
  split
  · exact hy
  · rename_i f hf
    have o := (readF_ok hf).1
    have a := Rcv.at_ok hy f.cid
    split
    · exact hy
    · split
      · exact Rcv.set_ok hy _ (followN_ok a o)
      · split
        · exact hy
        · exact Rcv.set_ok hy _ ⟨a.src, a.dst, a.port, a.turn, a.st, Nat.mod_lt _ (by decide)⟩
/-- contexts that are none -/
def Idle (m : Rcv) : Prop := ∀ i, m.cids ≤ i → i < 8 → (m.at_ i).begun = false
theorem takeM_cids (m : Rcv) (l : List UInt8) : (takeM m l).cids = m.cids := by
  unfold takeM
  split
  · rfl
  · split
    · rfl
    · split
      · rfl
      · split <;> rfl
theorem idle_take {m : Rcv} (hm : m.ok) (h : Idle m) (l : List UInt8) : Idle (takeM m l) := by
  intro i hi h8
  rw [takeM_cids] at hi
  have key : ∀ (j : Nat) (c : Rx), j < m.cids → ((m.set j c).at_ i).begun = false := by
    intro j c hj
    rw [Rcv.set_at _ _ _ _ (by rw [hm.len]; have := hm.c8; omega), if_neg (by omega)]
    exact h i hi h8
  unfold takeM
  split
  · exact h i hi h8
  · rename_i f hf
    split
    · exact h i hi h8
    · rename_i he
      have hc : f.cid < m.cids := by
        by_cases e : f.cid < m.cids
        · exact e
        · exfalso
          apply he
          unfold takeE
          rw [hf]
          simp only
          rw [if_pos (by omega)]
      split
      · exact key _ _ hc
      · split
        · exact h i hi h8
        · exact key _ _ hc
structure EndsR (m : Rcv) (d : Doc) : Prop where
  ok : m.ok
  rel : RelR m d
  cids : d.cids = m.cids
  idle : Idle m
theorem freshR_rel {c k r : Nat} (h1 : 1 ≤ c) (h2 : c ≤ 8) : EndsR (freshR c) (docFresh c k r) :=
  ⟨freshR_ok h1 h2, ⟨by simp [docFresh, freshR], fun i hi => by rw [freshR_at, docFresh_at]; exact ⟨rfl, fun e => by simp [Rx.blank] at e, rfl, rfl, rfl, by decide⟩⟩, rfl, fun i _ _ => by rw [freshR_at]; rfl⟩
/-- what both tell -/
theorem relR_flows_upto {m : Rcv} {d : Doc} (h : RelR m d) : ∀ j, j ≤ m.cids → dflowsK d j = rflowsK m j ∧ dcountK d j = rcountK m j := by
  intro j
  induction j with
  | zero => intro _; exact ⟨rfl, rfl⟩
  | succ j ih =>
    intro hj
    obtain ⟨i1, i2⟩ := ih (by omega)
    have o := h.one j (by omega)
    simp only [dflowsK, dcountK, rflowsK, rcountK, i1, i2]
    by_cases hb : (m.at_ j).begun = true
    · have hs : (d.at_ j).sts = [(m.at_ j).st] := by rw [o.sts, if_pos hb]
      have hc : (d.at_ j).has = true ∧ (d.at_ j).sts ≠ [] := ⟨by rw [o.has]; exact hb, by rw [hs]; simp⟩
      rw [if_pos hc, if_pos hb, if_pos hc, if_pos hb]
      have e : dflowV j (d.at_ j) = rflowV j (m.at_ j) := by
        obtain ⟨r1, r2, r3, r4⟩ := o.rt hb
        unfold dflowV rflowV
        rw [hs, r1, r2, r3, r4, o.missed, o.sent, Nat.zero_add]
        rfl
      rw [e]
      exact ⟨rfl, rfl⟩
    · have hc : ¬ ((d.at_ j).has = true ∧ (d.at_ j).sts ≠ []) := fun e => hb (by rw [← o.has]; exact e.1)
      rw [if_neg hc, if_neg hb, if_neg hc, if_neg hb]
      exact ⟨rfl, rfl⟩
theorem idle_flows {m : Rcv} (hi : Idle m) : ∀ n, m.cids + n ≤ 8 → rflowsK m (m.cids + n) = rflowsK m m.cids ∧ rcountK m (m.cids + n) = rcountK m m.cids := by
  intro n
  induction n with
  | zero => intro _; exact ⟨rfl, rfl⟩
  | succ n ih =>
    intro hn
    obtain ⟨i1, i2⟩ := ih (by omega)
    have e := hi (m.cids + n) (by omega) (by omega)
    rw [← Nat.add_assoc]
    simp only [rflowsK, rcountK, i1, i2, e]
    simp
theorem EndsR.flows {m : Rcv} {d : Doc} (h : EndsR m d) : dflowsK d d.cs.length = rflowsK m 8 ∧ dcountK d d.cs.length = rcountK m 8 := by
  have m8 := h.ok.c8
  have a := relR_flows_upto h.rel m.cids (Nat.le_refl _)
  have b := idle_flows h.idle (8 - m.cids) (by omega)
  rw [show m.cids + (8 - m.cids) = 8 by omega] at b
  rw [h.rel.len, b.1, b.2]
  exact a
theorem EndsR.fine {m : Rcv} {d : Doc} (h : EndsR m d) : ∀ i, i < d.cs.length → (d.at_ i).fine := by
  intro i hi
  have o := h.rel.one i (by rw [← h.rel.len]; exact hi)
  have c := Rcv.at_ok h.ok i
  refine ⟨o.tn, fun s hs => ?_, by rw [o.sent, o.missed]; have := c.missed; omega⟩
  rw [o.sts] at hs
  split at hs
  · simp at hs
    rw [hs]
    exact c.st
  · simp at hs

/-- a receiver's ends in memory -/
structure RAt (B : Nat) (w : World) (gr gy ge gl : Nat) (m : Rcv) (d : Doc) : Prop where
  pair : w.heap[gr]? = some (.cells #[.pointer none, .pointer (some ⟨gy, 0, none⟩), .pointer (some ⟨ge, 0, none⟩)] 61 (0, 0))
  rcv : RcvAt w gy m
  doc : DocAt w ge gl d
  sts : StsIn w B d
  ls : B ≤ gy
  le : B ≤ ge
  ll : B ≤ gl
theorem RAt.onlyT {ts : List TypeId} {B : Nat} {w w' : World} {gr gy ge gl : Nat} {m : Rcv} {d : Doc} (h : RAt B w gr gy ge gl m d) (o : OnlyT ts w w') (h1 : 61 ∉ ts) (h2 : 91 ∉ ts) (h3 : 94 ∉ ts) (h4 : 126 ∉ ts) (h5 : 128 ∉ ts) : RAt B w' gr gy ge gl m d :=
  ⟨o.keep h.pair h1, o.keep h.rcv h2, ⟨o.keep h.doc.head h3, o.keep h.doc.rows h4, h.doc.sl⟩, h.sts.same (fun q cs hq => o.block q cs _ _ hq h5), h.ls, h.le, h.ll⟩
theorem RAt.grew {B : Nat} {w w' : World} {gr gy ge gl : Nat} {m : Rcv} {d : Doc} (h : RAt B w gr gy ge gl m d) (hb : Below w.heap.size w w') : RAt B w' gr gy ge gl m d :=
  h.onlyT (OnlyT.of_below (ts := []) hb) (by simp) (by simp) (by simp) (by simp) (by simp)
theorem RAt.rest {S : Nat → Prop} {B : Nat} {w w' : World} {gr gy ge gl : Nat} {m : Rcv} {d : Doc} (h : RAt B w gr gy ge gl m d) (o : Only S w w') (hS : ∀ k, S k → ∃ cs t fr, w.heap[k]? = some (.cells cs t fr) ∧ t ≠ 61 ∧ t ≠ 128)
    (h2 : ¬ S gy) (h3 : ¬ S ge) (h4 : ¬ S gl) : RAt B w' gr gy ge gl m d := by
  refine ⟨o.keep h.pair (fun e => ?_), o.keep h.rcv h2, ⟨o.keep h.doc.head h3, o.keep h.doc.rows h4, h.doc.sl⟩, h.sts.same (fun q cs hq => o.block q (block_lt hq) (fun e => ?_)), h.ls, h.le, h.ll⟩
  · obtain ⟨cs, t, fr, a, b, c⟩ := hS _ e
    rw [h.pair] at a
    simp at a
    exact b a.2.1.symm
  · obtain ⟨cs', t, fr, a, b, c⟩ := hS _ e
    rw [hq] at a
    simp at a
    exact c a.2.1.symm
theorem RAt.dn {B B' : Nat} {w : World} {gr gy ge gl : Nat} {m : Rcv} {d : Doc} (h : RAt B w gr gy ge gl m d) (hb : B' ≤ B) : RAt B' w gr gy ge gl m d :=
  ⟨h.pair, h.rcv, h.doc, fun i hi => ⟨own_dn (h.sts i hi).1 hb, (h.sts i hi).2⟩, Nat.le_trans hb h.ls, Nat.le_trans hb h.le, Nat.le_trans hb h.ll⟩

end Go.Proofs.YtgpojbgjfibblabGreat.texts
