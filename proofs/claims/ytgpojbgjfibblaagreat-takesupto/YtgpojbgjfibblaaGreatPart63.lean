/-
  The walks of told on the receiver's side, of step's other kinds, of ends and of begun (package gistlaw). Two pairs of ends and the book, in memory (package gistlaw): what each step keeps. The walk of a script on two pairs of ends (package gistlaw): plays, Takes. The walk of the statement Takes (package gistlaw).
  Conditions stand in each theorem.
-/
import Derived.Test.YtgpojbgjfibblaaGreatTakesWalk
namespace Go.Proofs.YtgpojbgjfibblaaGreat.texts
open Go.RowKit
set_option linter.unusedVariables false
attribute [local go_sem ↓] Go.wp_at_zero Go.wp_at_succ
attribute [local go_sem] bs_size

set_option maxRecDepth 100000 in
set_option maxHeartbeats 8000000 in
theorem wtold_rcv (B : Nat) (wd gp gB gr gy ge gl : Nat) (vs : Value) (fs : List (List UInt8)) (bk : List UInt8) (m : Rcv) (d : Doc) (vF vM vT vN : Value) (next : Int) (K : List (Value × Int)) (w : World) (hW : WAt B w wd gp gB (.pointer (some ⟨gr, 0, none⟩)) vs fs bk) (hS : RAt B w gr gy ge gl m d) (hE : EndsR m d)
    (hK : BkAt B w gB vF vM vT vN next K) (hFS : FShorts K) (hlen : K.length ≤ 268435456) (h0 : -268435456 ≤ next) (h1 : next ≤ 268435456) :
    Calls Tryz.prog 9 #[.pointer (some ⟨wd, 0, none⟩), .bool false] w fun e w' => e = .returned (.bool true) ∧ ToldPost B w gB vT vN next K w' := by
  have HW := hide hW
  have HS := hide hS
  have HE := hide hE
  have HK := hide hK
  have HFS := hide hFS
  have hBw : B ≤ w.heap.size := by have := block_lt hK.blk; have := hK.low; omega
  have hc8 := hE.ok.c8
  obtain ⟨f1, f2⟩ := hE.flows
  have F1 := hide f1
  have F2 := hide f2
  have c0 : w.cell? ⟨wd, 1, none⟩ = some (.pointer (some ⟨gr, 0, none⟩)) := block_cell hW.blk 1
  have c1 : w.cell? ⟨gr, 1, none⟩ = some (.pointer (some ⟨gy, 0, none⟩)) := block_cell hS.pair 1
  have c2 : w.cell? ⟨gr, 2, none⟩ = some (.pointer (some ⟨ge, 0, none⟩)) := block_cell hS.pair 2
  have c4 : w.cell? ⟨wd, 4, none⟩ = some (.pointer (some ⟨gB, 0, none⟩)) := block_cell hW.blk 4
  obtain ⟨hrows, hrl⟩ := rflows_rows m 8
  have hcn := rcountK_le m 8
  obtain ⟨C, hC⟩ : ∃ C, C = rcountK m 8 := ⟨_, rfl⟩
  obtain ⟨X, hX⟩ : ∃ X, X = rflowsK m 8 := ⟨_, rfl⟩
  rw [← hC] at hrows hcn
  rw [← hX] at hrows
  have HR := hide hrows
  have HC := hide hC
  have HX := hide hX
  have C0 := hide c0
  have C1 := hide c1
  have C2 := hide c2
  have C4 := hide c4
  have HD8 := hide (show d.cs.length ≤ 8 by rw [hE.rel.len]; exact hc8)
  clear hW hS hE hK hFS f1 f2 hrows hrl hC hX
  go_enter Tryz.func9, Tryz.ntmps9
  go_wp2_with fail
  go_at_call 21
  refine (grflows_any m gy _ (unhide HE).ok (unhide HS).rcv).mono ?_
  rintro e w1 ⟨l, rfl, o1, b1⟩
  rw [← unhide HC, ← unhide HX] at o1
  have HO1 := hide o1
  have HB1 := hide b1
  have c0 := keep_cell (unhide C0) b1
  have c1 := keep_cell (unhide C1) b1
  clear o1 b1
  go_wp2_with fail
  go_at_call 21
  refine (grflows_any m gy _ (unhide HE).ok ((unhide HS).grew (unhide HB1)).rcv).mono ?_
  rintro e w2 ⟨q, rfl, o2, b2⟩
  rw [← unhide HC, ← unhide HX] at o2
  have HO2 := hide o2
  have HO1' := hide (own_same (unhide HO1) (fun g hg => by obtain ⟨cur, hc⟩ := own_ty (unhide HO1) hg; exact b2.block g (block_lt hc)))
  have HQ := hide (fun g hg g' hg' => by
    have h1 := ((unhide HO1).lt g hg).2
    have h2 := (o2.lt g' hg').1
    omega : ∀ g, l.ownBlock = some g → ∀ g', q.ownBlock = some g' → g ≠ g')
  have HB2 := hide (grew_call (unhide HB1) b2)
  have hz1 := (unhide HB1).size
  have c0 := keep_cell (unhide C0) (unhide HB2)
  have c2 := keep_cell (unhide C2) (unhide HB2)
  clear o2 b2 c1 HO1 HB1
  go_wp2_with fail
  go_at_call 20
  refine (dflows_any d ge gl _ ((unhide HS).grew (unhide HB2)).doc (fun i hi => StsAt.of_own (((unhide HS).grew (unhide HB2)).sts i hi).1 (by have := (((unhide HS).grew (unhide HB2)).sts i hi).2; omega)) (unhide HE).fine (unhide HD8)).mono ?_
  rintro e w3 ⟨r, rfl, o3, b3⟩
  rw [unhide F1, unhide F2, ← unhide HC, ← unhide HX] at o3
  have HO3 := hide o3
  have HO1 := hide (own_same (unhide HO1') (fun g hg => by obtain ⟨cur, hc⟩ := own_ty (unhide HO1') hg; exact b3.block g (block_lt hc)))
  have HO2' := hide (own_same (unhide HO2) (fun g hg => by obtain ⟨cur, hc⟩ := own_ty (unhide HO2) hg; exact b3.block g (block_lt hc)))
  have HB3 := hide (grew_call (unhide HB2) b3)
  obtain ⟨al, cl, hl⟩ := own_sl (unhide HO1)
  obtain ⟨aq, cq, hq⟩ := own_sl (unhide HO2')
  obtain ⟨ar, cr, hr⟩ := own_sl o3
  have Hl := hide hl
  have Hq := hide hq
  clear o3 b3 c0 c2 HO1' HO2 HB2 hl hq hr
  go_wp2_with fail
  go_at_call 22
  refine (sameFlows_any _ l r C _ _ X (unhide HO1) (unhide HO3) (unhide HR) (by omega)).mono ?_
  rintro e w4 ⟨rfl, b4⟩
  have HB4 := hide b4
  clear b4
  go_wp2_with fail
  go_at_call 22
  refine (sameFlows_any _ q r C _ _ X (own_same (unhide HO2') (fun g hg => by obtain ⟨cur, hc⟩ := own_ty (unhide HO2') hg; exact (unhide HB4).block g (block_lt hc))) (own_same (unhide HO3) (fun g hg => by obtain ⟨cur, hc⟩ := own_ty (unhide HO3) hg; exact (unhide HB4).block g (block_lt hc))) (unhide HR) (by omega)).mono ?_
  rintro e w5 ⟨rfl, b5⟩
  have HB45 := hide (grew_call (unhide HB4) b5)
  have HB5 := hide (grew_call (unhide HB3) (unhide HB45))
  have L5 := hide (own_dn (own_same (unhide HO1) (fun g hg => by obtain ⟨cur, hc⟩ := own_ty (unhide HO1) hg; exact (unhide HB45).block g (block_lt hc))) hBw)
  have Q5 := hide (own_dn (own_same (unhide HO2') (fun g hg => by obtain ⟨cur, hc⟩ := own_ty (unhide HO2') hg; exact (unhide HB45).block g (block_lt hc))) (Nat.le_trans hBw hz1))
  have lnew := hide (fun g hg => ((unhide HO1).lt g hg).1 : ∀ g, l.ownBlock = some g → w.heap.size ≤ g)
  have qnew := hide (fun g hg => Nat.le_trans hz1 ((unhide HO2').lt g hg).1 : ∀ g, q.ownBlock = some g → w.heap.size ≤ g)
  have c4 := keep_cell (unhide C4) (unhide HB5)
  clear b5 HO1 HO2' HO3 HB3 HB4 HB45
  go_wp2_with fail
  go_at_call 23
  refine (fowns_any B _ gB vF vM vT vN next K l C X ((unhide HK).grew (unhide HB5)) (by omega) (by omega) (by omega) (unhide L5) (by omega) (fun e he g hg h2 => by have h3 := unhide lnew g hg; have h4 := bk_old (unhide HK) he h2; omega)).mono ?_
  rintro e w6 ⟨rfl, vF6, vM6, K6, k6, n6, s6, nw6, b6, t6⟩
  have HK6 := hide k6
  have HS6 := hide (s6 (unhide HFS))
  have HNW := hide nw6
  have HB6 := hide b6
  have HT6 := hide t6
  have W6 := ((unhide HW).grew (unhide HB5)).onlyT t6.onlyT (by decide) (by decide)
  have c4 : w6.cell? ⟨wd, 4, none⟩ = some (.pointer (some ⟨gB, 0, none⟩)) := block_cell W6.blk 4
  have Q6 := hide (own_same (unhide Q5) (fun g hg => by
    obtain ⟨cur, hc⟩ := own_ty (unhide Q5) hg
    exact t6.flow g cur _ hc (fun e => unhide HQ g e g hg rfl)))
  have QK := hide (fun e he g hg h2 => by
    obtain ⟨cur, hc⟩ := own_ty (unhide Q5) hg
    have hlt := block_lt hc
    rcases nw6 e he with h3 | h3 | h3
    · have h4 := bk_old (unhide HK) h3 h2
      have h5 := unhide qnew g hg
      omega
    · rw [h2] at h3
      exact unhide HQ g h3.symm g hg rfl
    · have := h3 g h2
      omega : ∀ e ∈ K6, ∀ g, q.ownBlock = some g → e.1.ownBlock ≠ some g)
  clear k6 s6 nw6 b6 t6 W6 L5 Q5 HNW HQ
  go_wp2_with fail
  go_at_call 23
  refine (fowns_any B _ gB vF6 vM6 vT vN (next - 1) K6 q C X (unhide HK6) (by omega) (by omega) (by omega) (unhide Q6) (by omega) (unhide QK)).mono ?_
  rintro e w7 ⟨rfl, vF7, vM7, K7, k7, n7, s7, nw7, b7, t7⟩
  have fin := hide (show ToldPost B w gB vT vN next K w7 from ⟨vF7, vM7, K7, by rw [show next - 2 = next - 1 - 1 by omega]; exact k7, by omega, s7 (unhide HS6), ((unhide HB5).mono hBw).trans ((unhide HB6).trans b7), (OnlyT.of_below (unhide HB5)).trans ((unhide HT6).onlyT.trans t7.onlyT)⟩)
  clear k7 n7 s7 nw7 b7 t7 Q6 QK HK6 HS6 HB6 HT6
  go_wp2
  go_ret
  exact ⟨rfl, unhide fin⟩


set_option maxRecDepth 100000 in
set_option maxHeartbeats 2000000 in
theorem step_hears (o : Oq) (wd : Nat) (w : World) (Q : Bool → World → Prop) (hk : o.kind = 3) (bk : List UInt8) (hb : w.cell? ⟨wd, 3, none⟩ = some (.string (bs bk))) (h : Calls Tryz.prog 15 #[.pointer (some ⟨wd, 0, none⟩), .string (bs bk)] (w.alloc (.cells o.cells 43)) (Hands Q)) :
    Calls Tryz.prog 7 #[.pointer (some ⟨wd, 0, none⟩), .agg o.cells] w (Hands Q) := by
  have H := hide h
  clear h
  have hwl := lt_of_cell hb
  unfold Oq.cells
  rw [hk]
  go_enter Tryz.func7, Tryz.ntmps7
  go_wp2_with (go_at_call 15; refine Stop.out ?_)
  refine ⟨?_⟩
  have h := unhide H
  unfold Oq.cells at h
  rw [hk] at h
  refine Calls.mono h ?_
  rintro e w1 ⟨v, rfl, h1⟩
  have H1 := hide h1
  clear h1 h H
  go_wp2_with fail
  go_ret
  exact ⟨v, rfl, unhide H1⟩

set_option maxRecDepth 100000 in
set_option maxHeartbeats 2000000 in
theorem step_take (o : Oq) (wd : Nat) (w : World) (Q : Bool → World → Prop) (hk : o.kind = 5) (h : Calls Tryz.prog 16 #[.pointer (some ⟨wd, 0, none⟩), .string (bs o.s)] (w.alloc (.cells o.cells 43)) (Hands Q)) :
    Calls Tryz.prog 7 #[.pointer (some ⟨wd, 0, none⟩), .agg o.cells] w (Hands Q) := by
  have H := hide h
  clear h
  unfold Oq.cells
  rw [hk]
  go_enter Tryz.func7, Tryz.ntmps7
  go_wp2_with (go_at_call 16; refine Stop.out ?_)
  refine ⟨?_⟩
  have h := unhide H
  unfold Oq.cells at h
  rw [hk] at h
  refine Calls.mono h ?_
  rintro e w1 ⟨v, rfl, h1⟩
  have H1 := hide h1
  clear h1 h H
  go_wp2_with fail
  go_ret
  exact ⟨v, rfl, unhide H1⟩

set_option maxRecDepth 100000 in
set_option maxHeartbeats 2000000 in
theorem step_pass (o : Oq) (wd : Nat) (w : World) (Q : Bool → World → Prop) (hk : o.kind = 6) (h : Calls Tryz.prog 17 #[.pointer (some ⟨wd, 0, none⟩), .agg o.cells] (w.alloc (.cells o.cells 43)) (Hands Q)) :
    Calls Tryz.prog 7 #[.pointer (some ⟨wd, 0, none⟩), .agg o.cells] w (Hands Q) := by
  have H := hide h
  clear h
  unfold Oq.cells
  rw [hk]
  go_enter Tryz.func7, Tryz.ntmps7
  go_wp2_with (go_at_call 17; refine Stop.out ?_)
  refine ⟨?_⟩
  have h := unhide H
  unfold Oq.cells at h
  rw [hk] at h
  refine Calls.mono h ?_
  rintro e w1 ⟨v, rfl, h1⟩
  have H1 := hide h1
  clear h1 h H
  go_wp2_with fail
  go_ret
  exact ⟨v, rfl, unhide H1⟩

set_option maxRecDepth 100000 in
set_option maxHeartbeats 2000000 in
theorem step_spoil (o : Oq) (wd : Nat) (w : World) (Q : Bool → World → Prop) (hk : o.kind = 7) (h : Calls Tryz.prog 17 #[.pointer (some ⟨wd, 0, none⟩), .agg o.cells] (w.alloc (.cells o.cells 43)) (Hands Q)) :
    Calls Tryz.prog 7 #[.pointer (some ⟨wd, 0, none⟩), .agg o.cells] w (Hands Q) := by
  have H := hide h
  clear h
  unfold Oq.cells
  rw [hk]
  go_enter Tryz.func7, Tryz.ntmps7
  go_wp2_with (go_at_call 17; refine Stop.out ?_)
  refine ⟨?_⟩
  have h := unhide H
  unfold Oq.cells at h
  rw [hk] at h
  refine Calls.mono h ?_
  rintro e w1 ⟨v, rfl, h1⟩
  have H1 := hide h1
  clear h1 h H
  go_wp2_with fail
  go_ret
  exact ⟨v, rfl, unhide H1⟩

set_option maxRecDepth 100000 in
set_option maxHeartbeats 2000000 in
theorem step_took (o : Oq) (wd : Nat) (w : World) (Q : Bool → World → Prop) (hk : o.kind = 8) (h : Calls Tryz.prog 9 #[.pointer (some ⟨wd, 0, none⟩), .bool false] (w.alloc (.cells o.cells 43)) (Hands Q)) :
    Calls Tryz.prog 7 #[.pointer (some ⟨wd, 0, none⟩), .agg o.cells] w (Hands Q) := by
  have H := hide h
  clear h
  unfold Oq.cells
  rw [hk]
  go_enter Tryz.func7, Tryz.ntmps7
  go_wp2_with (go_at_call 9; refine Stop.out ?_)
  refine ⟨?_⟩
  have h := unhide H
  unfold Oq.cells at h
  rw [hk] at h
  refine Calls.mono h ?_
  rintro e w1 ⟨v, rfl, h1⟩
  have H1 := hide h1
  clear h1 h H
  go_wp2_with fail
  go_ret
  exact ⟨v, rfl, unhide H1⟩

set_option maxRecDepth 100000 in
set_option maxHeartbeats 2000000 in
theorem ends_any (wd : Nat) (w : World) (Q1 Q2 : World → Prop) (h1 : Calls Tryz.prog 9 #[.pointer (some ⟨wd, 0, none⟩), .bool true] w fun e w' => e = .returned (.bool true) ∧ Q1 w')
    (h2 : ∀ w1, Q1 w1 → Calls Tryz.prog 9 #[.pointer (some ⟨wd, 0, none⟩), .bool false] w1 fun e w' => e = .returned (.bool true) ∧ Q2 w') :
    Calls Tryz.prog 25 #[.pointer (some ⟨wd, 0, none⟩)] w fun e w' => e = .returned (.bool true) ∧ Q2 w' := by
  have H1 := hide h1
  have H2 := hide h2
  clear h1 h2
  go_enter Tryz.func25, Tryz.ntmps25
  go_wp2_with fail
  go_at_call 9
  refine (unhide H1).mono ?_
  rintro e w1 ⟨rfl, q1⟩
  have HQ := hide (unhide H2 w1 q1)
  clear q1 H1 H2
  go_wp2_with fail
  go_at_call 9
  refine (unhide HQ).mono ?_
  rintro e w2 ⟨rfl, q2⟩
  have HR := hide q2
  clear q2 HQ
  go_wp2_with fail
  go_ret
  exact ⟨rfl, unhide HR⟩

def BegunPost (w : World) (gB c k r : Nat) (e : Ending) (w' : World) : Prop :=
  ∃ wd gp gs ge gl gr gy gf gm, e = .returned (.tuple #[.pointer (some ⟨wd, 0, none⟩), .bool true]) ∧ w.heap.size ≤ wd ∧ w.heap.size ≤ gs ∧ w.heap.size ≤ ge ∧ w.heap.size ≤ gl ∧ w.heap.size ≤ gy ∧ w.heap.size ≤ gf ∧ w.heap.size ≤ gm ∧ ge ≠ gf ∧ gl ≠ gm ∧
    WAt w.heap.size w' wd gp gB (.pointer (some ⟨gr, 0, none⟩)) (.slice none 0 0) [] [] ∧ SAt w.heap.size w' gp gs ge gl (freshN c k r) (docFresh c k r) ∧ RAt w.heap.size w' gr gy gf gm (freshR c) (docFresh c k r) ∧ Below w.heap.size w w'

set_option maxRecDepth 100000 in
set_option maxHeartbeats 4000000 in
theorem begun_yes (c k r gB : Nat) (w : World) (h1 : 1 ≤ c) (h2 : c ≤ 8) (h3 : 1 ≤ k) (h4 : k ≤ 4) (h5 : 2 ≤ r) (h6 : r ≤ 100) :
    Calls Tryz.prog 24 #[.agg #[.int .i64 c, .int .i64 k, .int .i64 r], .pointer (some ⟨gB, 0, none⟩)] w fun e w' => BegunPost w gB c k r e w' := by
  have CF0 := hide (heap_alloc_new w (.cells #[.int .i64 (c : Int), .int .i64 (k : Int), .int .i64 (r : Int)] 23))
  go_enter Tryz.func24, Tryz.ntmps24
  go_wp2_with fail
  go_at_call 11
  refine (gnewS_yes c k r _ h1 h2 h3 h4 h5 h6).mono ?_
  rintro e w1 ⟨gs, rfl, a1, a2, a3⟩
  have CF1 := block_keep (unhide CF0) a3
  have c0 : w1.cell? ⟨w.heap.size, 0, none⟩ = some (.int .i64 (c : Int)) := block_cell CF1 0
  have c1 : w1.cell? ⟨w.heap.size, 1, none⟩ = some (.int .i64 (k : Int)) := block_cell CF1 1
  have c2 : w1.cell? ⟨w.heap.size, 2, none⟩ = some (.int .i64 (r : Int)) := block_cell CF1 2
  have HCF1 := hide CF1
  have HS1 := hide a2
  have HB1 := hide (grew_call ((Below.refl _ _).alloc (Nat.le_refl _) _) a3 : Below w.heap.size w w1)
  have hgs : w.heap.size ≤ gs := by have := a1; simp at this; omega
  clear a1 a2 a3 CF1
  go_wp2_with fail
  go_at_call 45
  refine (gnewR_yes c k r _ h1 h2 h3 h4 h5 h6).mono ?_
  rintro e w2 ⟨gy, rfl, a1, a2, a3⟩
  have CF2 := block_keep (unhide HCF1) a3
  have c0 : w2.cell? ⟨w.heap.size, 0, none⟩ = some (.int .i64 (c : Int)) := block_cell CF2 0
  have c1 : w2.cell? ⟨w.heap.size, 1, none⟩ = some (.int .i64 (k : Int)) := block_cell CF2 1
  have c2 : w2.cell? ⟨w.heap.size, 2, none⟩ = some (.int .i64 (r : Int)) := block_cell CF2 2
  have HCF2 := hide CF2
  have hz1 := (unhide HB1).size
  have hgy : w.heap.size ≤ gy := by omega
  have HS2 := hide (block_keep (unhide HS1) a3 : SndAt w2 gs (freshN c k r))
  have HY2 := hide a2
  have HB2 := hide (grew_call (unhide HB1) a3)
  clear a1 a2 a3 CF2 HS1 HB1 HCF1
  go_wp2_with fail
  go_at_call 12
  refine (dnew_yes c k r _ h1 h2 h3 h4 h5 h6).mono ?_
  rintro e w3 ⟨ge, gl, rfl, b1, b2, b3, b4, b5⟩
  have CF3 := block_keep (unhide HCF2) b5
  have c0 : w3.cell? ⟨w.heap.size, 0, none⟩ = some (.int .i64 (c : Int)) := block_cell CF3 0
  have c1 : w3.cell? ⟨w.heap.size, 1, none⟩ = some (.int .i64 (k : Int)) := block_cell CF3 1
  have c2 : w3.cell? ⟨w.heap.size, 2, none⟩ = some (.int .i64 (r : Int)) := block_cell CF3 2
  have hz2 := (unhide HB2).size
  have hge : w.heap.size ≤ ge := by omega
  have hgl : w.heap.size ≤ gl := by omega
  have HS3 := hide (block_keep (unhide HS2) b5 : SndAt w3 gs (freshN c k r))
  have HY3 := hide (block_keep (unhide HY2) b5 : RcvAt w3 gy (freshR c))
  have HD3 := hide b4
  have HB3 := hide (grew_call (unhide HB2) b5)
  have lge := block_lt b4.head
  have lgl := block_lt b4.rows
  clear b1 b2 b3 b4 b5 CF3 HS2 HY2 HB2 HCF2
  go_wp2_with fail
  go_at_call 12
  refine (dnew_yes c k r _ h1 h2 h3 h4 h5 h6).mono ?_
  rintro e w4 ⟨gf, gm, rfl, b1, b2, b3, b4, b5⟩
  have hz3 := (unhide HB3).size
  have hgf : w.heap.size ≤ gf := by omega
  have hgm : w.heap.size ≤ gm := by omega
  have nef : ge ≠ gf := by omega
  have nlm : gl ≠ gm := by omega
  have HS4 := hide (block_keep (unhide HS3) b5 : SndAt w4 gs (freshN c k r))
  have HY4 := hide (block_keep (unhide HY3) b5 : RcvAt w4 gy (freshR c))
  have HD4 := hide ((unhide HD3).keep b5)
  have HF4 := hide b4
  have HB4 := hide (grew_call (unhide HB3) b5)
  clear b1 b2 b3 b4 b5 c0 c1 c2 HS3 HY3 HB3 HD3 lge lgl
  go_wp2_with (go_at_call 13; refine (bits.num_any _ _).mono ?_; rintro e w5 ⟨rfl, h5'⟩; have h5' := h5'.symm; subst h5')
  go_ret2
  have hz4 := (unhide HB4).size
  have e1 : (w4.alloc (.cells #[.pointer (some ⟨gs, 0, none⟩), .pointer none, .pointer (some ⟨ge, 0, none⟩)] 60)).heap.size = w4.heap.size + 1 := by simp
  have x1 : Below w4.heap.size w4 (((w4.alloc (.cells #[.pointer (some ⟨gs, 0, none⟩), .pointer none, .pointer (some ⟨ge, 0, none⟩)] 60)).alloc (.cells #[.pointer none, .pointer (some ⟨gy, 0, none⟩), .pointer (some ⟨gf, 0, none⟩)] 60)).alloc (.cells #[.pointer (some ⟨w4.heap.size, 0, none⟩), .pointer (some ⟨w4.heap.size + 1, 0, none⟩), .slice none 0 0, .string (bs []), .pointer (some ⟨gB, 0, none⟩)] 62)) := (((Below.refl _ _).alloc (Nat.le_refl _) _).alloc (by simp) _).alloc (by simp; omega) _
  exact ⟨w4.heap.size + 1 + 1, w4.heap.size, gs, ge, gl, w4.heap.size + 1, gy, gf, gm, rfl, by omega, hgs, hge, hgl, hgy, hgf, hgm, nef, nlm, ⟨third_alloc w4 _ _ _, World.ownsRow_nil _ _ _ _, by omega⟩, ⟨block_alloc (block_alloc (heap_alloc_new w4 _) _) _, block_keep (unhide HS4) x1, (unhide HD4).keep x1, docFresh_sts _ _ _ _ _, hgs, hge, hgl⟩, ⟨second_alloc w4 _ _ _, block_keep (unhide HY4) x1, (unhide HF4).keep x1, docFresh_sts _ _ _ _ _, hgy, hgf, hgm⟩, grew_call (unhide HB4) x1⟩

set_option maxRecDepth 100000 in
set_option maxHeartbeats 4000000 in
theorem begun_no (c k r : Int) (gB : Nat) (w : World) (h : confB c k r = false) :
    Calls Tryz.prog 24 #[.agg #[.int .i64 c, .int .i64 k, .int .i64 r], .pointer (some ⟨gB, 0, none⟩)] w fun e w' => e = .returned (.tuple #[.pointer none, .bool true]) ∧ Below w.heap.size w w' := by
  have CF0 := hide (heap_alloc_new w (.cells #[.int .i64 c, .int .i64 k, .int .i64 r] 23))
  have HC := hide h
  clear h
  go_enter Tryz.func24, Tryz.ntmps24
  go_wp2_with fail
  go_at_call 11
  refine (gnewS_no c k r _ (unhide HC)).mono ?_
  rintro e w1 ⟨rfl, a3⟩
  have CF1 := block_keep (unhide CF0) a3
  have c0 : w1.cell? ⟨w.heap.size, 0, none⟩ = some (.int .i64 c) := block_cell CF1 0
  have c1 : w1.cell? ⟨w.heap.size, 1, none⟩ = some (.int .i64 k) := block_cell CF1 1
  have c2 : w1.cell? ⟨w.heap.size, 2, none⟩ = some (.int .i64 r) := block_cell CF1 2
  have HCF1 := hide CF1
  have HB1 := hide (grew_call ((Below.refl _ _).alloc (Nat.le_refl _) _) a3 : Below w.heap.size w w1)
  clear a3 CF1
  go_wp2_with fail
  go_at_call 45
  refine (gnewR_no c k r _ (unhide HC)).mono ?_
  rintro e w2 ⟨rfl, a3⟩
  have CF2 := block_keep (unhide HCF1) a3
  have c0 : w2.cell? ⟨w.heap.size, 0, none⟩ = some (.int .i64 c) := block_cell CF2 0
  have c1 : w2.cell? ⟨w.heap.size, 1, none⟩ = some (.int .i64 k) := block_cell CF2 1
  have c2 : w2.cell? ⟨w.heap.size, 2, none⟩ = some (.int .i64 r) := block_cell CF2 2
  have HCF2 := hide CF2
  have HB2 := hide (grew_call (unhide HB1) a3)
  clear a3 CF2 HB1 HCF1
  go_wp2_with fail
  go_at_call 12
  refine (dnew_no c k r _ (unhide HC)).mono ?_
  rintro e w3 ⟨rfl, b5⟩
  have CF3 := block_keep (unhide HCF2) b5
  have c0 : w3.cell? ⟨w.heap.size, 0, none⟩ = some (.int .i64 c) := block_cell CF3 0
  have c1 : w3.cell? ⟨w.heap.size, 1, none⟩ = some (.int .i64 k) := block_cell CF3 1
  have c2 : w3.cell? ⟨w.heap.size, 2, none⟩ = some (.int .i64 r) := block_cell CF3 2
  have HB3 := hide (grew_call (unhide HB2) b5)
  clear b5 CF3 HB2 HCF2
  go_wp2_with fail
  go_at_call 12
  refine (dnew_no c k r _ (unhide HC)).mono ?_
  rintro e w4 ⟨rfl, b5⟩
  have HB4 := hide (grew_call (unhide HB3) b5)
  clear b5 c0 c1 c2 HB3
  go_wp2_with (go_at_call 13; refine (bits.num_any _ _).mono ?_; rintro e w5 ⟨rfl, h5'⟩; have h5' := h5'.symm; subst h5')
  go_ret2
  exact ⟨rfl, unhide HB4⟩

end Go.Proofs.YtgpojbgjfibblaaGreat.texts

namespace Go.Proofs.YtgpojbgjfibblaaGreat.texts
open Go.RowKit
set_option linter.unusedVariables false

/-- where a world's blocks lie -/
structure Ids where
  wd : Nat
  gp : Nat
  gs : Nat
  ge : Nat
  gl : Nat
  gr : Nat
  gy : Nat
  gf : Nat
  gm : Nat
  vs : Value
def Ids.foot (x : Ids) (k : Nat) : Prop := k = x.wd ∨ k = x.gs ∨ k = x.ge ∨ k = x.gl ∨ k = x.gy ∨ k = x.gf ∨ k = x.gm ∨ x.vs.ownBlock = some k
structure Parts (B : Nat) (w : World) (gB t : Nat) (x : Ids) (fs : List (List UInt8)) (bk : List UInt8) (m : Snd) (d : Doc) (k : Nat) (mr : Rcv) (dr : Doc) : Prop where
  wat : WAt B w x.wd x.gp gB (.pointer (some ⟨x.gr, 0, none⟩)) x.vs fs bk
  sat : SAt B w x.gp x.gs x.ge x.gl m d
  ends : Ends m d k
  rat : RAt B w x.gr x.gy x.gf x.gm mr dr
  endr : EndsR mr dr
  sent : d.sent ≤ t
  few : fs.length ≤ t
  short : ∀ f ∈ fs, f.length ≤ 1000
  back : bk.length ≤ 1000
  nef : x.ge ≠ x.gf
  nlm : x.gl ≠ x.gm
def Half2 (B : Nat) (w : World) (gB t : Nat) (x : Ids) : Prop := ∃ fs bk m d k mr dr, Parts B w gB t x fs bk m d k mr dr
theorem Parts.ty {B : Nat} {w : World} {gB t : Nat} {x : Ids} {fs : List (List UInt8)} {bk : List UInt8} {m : Snd} {d : Doc} {k : Nat} {mr : Rcv} {dr : Doc} (h : Parts B w gB t x fs bk m d k mr dr) {q : Nat} (hq : x.foot q) :
    B ≤ q ∧ ∃ cs t fr, w.heap[q]? = some (.cells cs t fr) ∧ t ∈ [62, 83, 86, 109, 118, 9] := by
  rcases hq with rfl | rfl | rfl | rfl | rfl | rfl | rfl | e
  · exact ⟨h.wat.lw, _, _, _, h.wat.blk, by simp⟩
  · exact ⟨h.sat.ls, _, _, _, h.sat.snd, by simp⟩
  · exact ⟨h.sat.le, _, _, _, h.sat.doc.head, by simp⟩
  · exact ⟨h.sat.ll, _, _, _, h.sat.doc.rows, by simp⟩
  · exact ⟨h.rat.ls, _, _, _, h.rat.rcv, by simp⟩
  · exact ⟨h.rat.le, _, _, _, h.rat.doc.head, by simp⟩
  · exact ⟨h.rat.ll, _, _, _, h.rat.doc.rows, by simp⟩
  · obtain ⟨cur, hc⟩ := own_ty h.wat.sent e
    exact ⟨(h.wat.sent.lt q e).1, _, _, _, hc, by simp⟩
theorem Half2.lt {B : Nat} {w : World} {gB t : Nat} {x : Ids} (h : Half2 B w gB t x) {q : Nat} (hq : x.foot q) : q < w.heap.size := by
  obtain ⟨fs, bk, m, d, k, mr, dr, p⟩ := h
  obtain ⟨_, cs, t, fr, hh, _⟩ := p.ty hq
  exact block_lt hh
theorem Half2.onlyT {ts : List TypeId} {B : Nat} {w w' : World} {gB t t' : Nat} {x : Ids} (h : Half2 B w gB t x) (o : OnlyT ts w w') (ht : t ≤ t') (h0 : 62 ∉ ts) (h1 : 60 ∉ ts) (h2 : 83 ∉ ts) (h3 : 86 ∉ ts) (h4 : 109 ∉ ts) (h5 : 111 ∉ ts) (h6 : 118 ∉ ts) (h7 : 9 ∉ ts) : Half2 B w' gB t' x := by
  obtain ⟨fs, bk, m, d, k, mr, dr, p⟩ := h
  have a := p.sent
  have b := p.few
  exact ⟨fs, bk, m, d, k, mr, dr, p.wat.onlyT o h0 h7, p.sat.onlyT o h1 h2 h3 h4 h5, p.ends, p.rat.onlyT o h1 h6 h3 h4 h5, p.endr, by omega, by omega, p.short, p.back, p.nef, p.nlm⟩
theorem Half2.grew {B : Nat} {w w' : World} {gB t t' : Nat} {x : Ids} (h : Half2 B w gB t x) (hb : Below w.heap.size w w') (ht : t ≤ t') : Half2 B w' gB t' x :=
  h.onlyT (OnlyT.of_below (ts := []) hb) ht (by simp) (by simp) (by simp) (by simp) (by simp) (by simp) (by simp) (by simp)
theorem Half2.rest {S : Nat → Prop} {B : Nat} {w w' : World} {gB t t' : Nat} {x : Ids} (h : Half2 B w gB t x) (o : Only S w w') (ht : t ≤ t') (hS : ∀ k, S k → ∃ cs t fr, w.heap[k]? = some (.cells cs t fr) ∧ t ≠ 60 ∧ t ≠ 111) (hd : ∀ k, S k → ¬ x.foot k) : Half2 B w' gB t' x := by
  obtain ⟨fs, bk, m, d, k, mr, dr, p⟩ := h
  have a := p.sent
  have b := p.few
  refine ⟨fs, bk, m, d, k, mr, dr, p.wat.rest o (fun e => hd _ e (Or.inl rfl)) (fun g hg e => hd _ e (Or.inr (Or.inr (Or.inr (Or.inr (Or.inr (Or.inr (Or.inr hg)))))))), p.sat.rest o hS (fun e => hd _ e (Or.inr (Or.inl rfl))) (fun e => hd _ e (Or.inr (Or.inr (Or.inl rfl)))) (fun e => hd _ e (Or.inr (Or.inr (Or.inr (Or.inl rfl))))), p.ends,
    p.rat.rest o hS (fun e => hd _ e (Or.inr (Or.inr (Or.inr (Or.inr (Or.inl rfl)))))) (fun e => hd _ e (Or.inr (Or.inr (Or.inr (Or.inr (Or.inr (Or.inl rfl))))))) (fun e => hd _ e (Or.inr (Or.inr (Or.inr (Or.inr (Or.inr (Or.inr (Or.inl rfl)))))))), p.endr, by omega, by omega, p.short, p.back, p.nef, p.nlm⟩
theorem not_two {l : List TypeId} {t a b : TypeId} (h : t ∈ l) (ha : a ∉ l) (hb : b ∉ l) : t ≠ a ∧ t ≠ b := ⟨fun e => ha (e ▸ h), fun e => hb (e ▸ h)⟩
/-- a send or a hear -/
theorem Parts.sent_ {B : Nat} {w w' : World} {gB t : Nat} {x : Ids} {fs : List (List UInt8)} {bk : List UInt8} {m : Snd} {d : Doc} {k : Nat} {mr : Rcv} {dr : Doc} (h : Parts B w gB t x fs bk m d k mr dr)
    (hp : SentPost B w x.wd x.gp x.gs x.ge x.gl gB (.pointer (some ⟨x.gr, 0, none⟩)) x.vs bk fs d w') : ∃ vs', Half2 B w' gB (t + 1) { x with vs := vs' } ∧ (vs'.ownBlock = x.vs.ownBlock ∨ ∃ g, vs'.ownBlock = some g ∧ w.heap.size ≤ g) ∧ Only x.foot w w' := by
  obtain ⟨m', d', k', vs', fs', E', e1, e2, e3, S', W', e4, o⟩ := hp
  have a := h.sent
  have b := h.few
  have ty : ∀ q, sendS x.wd x.gs x.ge x.gl x.vs q → x.foot q := by
    rintro q (e | e | e | e | e)
    · exact Or.inl e
    · exact Or.inr (Or.inl e)
    · exact Or.inr (Or.inr (Or.inl e))
    · exact Or.inr (Or.inr (Or.inr (Or.inl e)))
    · exact Or.inr (Or.inr (Or.inr (Or.inr (Or.inr (Or.inr (Or.inr e))))))
  have nt : ∀ q, sendS x.wd x.gs x.ge x.gl x.vs q → ∃ cs t fr, w.heap[q]? = some (.cells cs t fr) ∧ t ≠ 60 ∧ t ≠ 111 := fun q e => by
    obtain ⟨_, cs, t, fr, h1, h2⟩ := h.ty (ty q e)
    exact ⟨cs, t, fr, h1, not_two h2 (by decide) (by decide)⟩
  refine ⟨vs', ⟨fs', bk, m', d', k', mr, dr, W', S', E', ?_, h.endr, by omega, by omega, e3 h.short, h.back, h.nef, h.nlm⟩, e4, o.mono ty⟩
  refine h.rat.rest o nt ?_ ?_ ?_
  · rintro (e | e | e | e | e)
    · exact apart_ty h.rat.rcv h.wat.blk (by decide) e
    · exact apart_ty h.rat.rcv h.sat.snd (by decide) e
    · exact apart_ty h.rat.rcv h.sat.doc.head (by decide) e
    · exact apart_ty h.rat.rcv h.sat.doc.rows (by decide) e
    · obtain ⟨cur, hc⟩ := own_ty h.wat.sent e
      exact apart_ty h.rat.rcv hc (by decide) rfl
  · rintro (e | e | e | e | e)
    · exact apart_ty h.rat.doc.head h.wat.blk (by decide) e
    · exact apart_ty h.rat.doc.head h.sat.snd (by decide) e
    · exact h.nef e.symm
    · exact apart_ty h.rat.doc.head h.sat.doc.rows (by decide) e
    · obtain ⟨cur, hc⟩ := own_ty h.wat.sent e
      exact apart_ty h.rat.doc.head hc (by decide) rfl
  · rintro (e | e | e | e | e)
    · exact apart_ty h.rat.doc.rows h.wat.blk (by decide) e
    · exact apart_ty h.rat.doc.rows h.sat.snd (by decide) e
    · exact apart_ty h.rat.doc.rows h.sat.doc.head (by decide) e
    · exact h.nlm e.symm
    · obtain ⟨cur, hc⟩ := own_ty h.wat.sent e
      exact apart_ty h.rat.doc.rows hc (by decide) rfl
/-- a take -/
theorem Parts.took_ {B : Nat} {w w' : World} {gB t : Nat} {x : Ids} {fs : List (List UInt8)} {bk : List UInt8} {m : Snd} {d : Doc} {k : Nat} {mr : Rcv} {dr : Doc} (h : Parts B w gB t x fs bk m d k mr dr)
    (hp : TookPost B w x.wd x.gp gB x.gr x.gy x.gf x.gm x.vs fs bk w') : Half2 B w' gB (t + 1) x ∧ Only x.foot w w' := by
  obtain ⟨m', d', bk', E', R', W', e1, o⟩ := hp
  have a := h.sent
  have b := h.few
  have ty : ∀ q, takeS x.wd x.gy x.gm q → x.foot q := by
    rintro q (e | e | e)
    · exact Or.inl e
    · exact Or.inr (Or.inr (Or.inr (Or.inr (Or.inl e))))
    · exact Or.inr (Or.inr (Or.inr (Or.inr (Or.inr (Or.inr (Or.inl e))))))
  have nt : ∀ q, takeS x.wd x.gy x.gm q → ∃ cs t fr, w.heap[q]? = some (.cells cs t fr) ∧ t ≠ 60 ∧ t ≠ 111 := fun q e => by
    obtain ⟨_, cs, t, fr, h1, h2⟩ := h.ty (ty q e)
    exact ⟨cs, t, fr, h1, not_two h2 (by decide) (by decide)⟩
  refine ⟨⟨fs, bk', m, d, k, m', d', W', ?_, h.ends, R', E', by omega, by omega, h.short, e1 h.back, h.nef, h.nlm⟩, o.mono ty⟩
  refine h.sat.rest o nt ?_ ?_ ?_
  · rintro (e | e | e)
    · exact apart_ty h.sat.snd h.wat.blk (by decide) e
    · exact apart_ty h.sat.snd h.rat.rcv (by decide) e
    · exact apart_ty h.sat.snd h.rat.doc.rows (by decide) e
  · rintro (e | e | e)
    · exact apart_ty h.sat.doc.head h.wat.blk (by decide) e
    · exact apart_ty h.sat.doc.head h.rat.rcv (by decide) e
    · exact apart_ty h.sat.doc.head h.rat.doc.rows (by decide) e
  · rintro (e | e | e)
    · exact apart_ty h.sat.doc.rows h.wat.blk (by decide) e
    · exact apart_ty h.sat.doc.rows h.rat.rcv (by decide) e
    · exact h.nlm e

/-- both pairs, and the book -/
structure Both2 (B : Nat) (w : World) (gB i : Nat) (x1 x2 : Ids) (vF vM : Value) (next : Int) (K : List (Value × Int)) (wr : World) : Prop where
  one : Half2 B wr gB i x1
  two : Half2 B wr gB i x2
  apart : ∀ k, x1.foot k → ¬ x2.foot k
  book : BkAt B wr gB vF vM (.slice none 0 0) (.slice none 0 0) next K
  sh : FShorts K
  kl : K.length ≤ 8 * i
  nl : -(2 * (i : Int)) ≤ next
  nu : next ≤ 0
  bel : Below B w wr
def TakesP (B : Nat) (w : World) (gB i wd1 wd2 : Nat) (wr : World) : Prop := ∃ x1 x2 vF vM next K, x1.wd = wd1 ∧ x2.wd = wd2 ∧ Both2 B w gB i x1 x2 vF vM next K wr
theorem Both2.low {B : Nat} {w wr : World} {gB i : Nat} {x1 x2 : Ids} {vF vM : Value} {next : Int} {K : List (Value × Int)} (h : Both2 B w gB i x1 x2 vF vM next K wr) : B ≤ wr.heap.size := by
  have := h.book.low
  have := block_lt h.book.blk
  omega
theorem TakesP.grew {B : Nat} {w wr w' : World} {gB i wd1 wd2 : Nat} (h : TakesP B w gB i wd1 wd2 wr) (hb : Below wr.heap.size wr w') {i' : Nat} (hi : i ≤ i') : TakesP B w gB i' wd1 wd2 w' := by
  obtain ⟨x1, x2, vF, vM, next, K, e1, e2, p⟩ := h
  have hl := p.low
  have kl := p.kl
  have nl := p.nl
  exact ⟨x1, x2, vF, vM, next, K, e1, e2, p.one.grew hb hi, p.two.grew hb hi, p.apart, p.book.grew hb, p.sh, by omega, by omega, p.nu, p.bel.trans (hb.mono hl)⟩
theorem TakesP.swap {B : Nat} {w wr : World} {gB i wd1 wd2 : Nat} (h : TakesP B w gB i wd1 wd2 wr) : TakesP B w gB i wd2 wd1 wr := by
  obtain ⟨x1, x2, vF, vM, next, K, e1, e2, p⟩ := h
  exact ⟨x2, x1, vF, vM, next, K, e2, e1, p.two, p.one, fun k a b => p.apart k b a, p.book, p.sh, p.kl, p.nl, p.nu, p.bel⟩
theorem TakesP.below {B : Nat} {w wr : World} {gB i wd1 wd2 : Nat} (h : TakesP B w gB i wd1 wd2 wr) : Below B w wr := by
  obtain ⟨x1, x2, vF, vM, next, K, e1, e2, p⟩ := h
  exact p.bel
/-- the first has gone a step on -/
theorem Both2.step {B : Nat} {w wr w' : World} {gB i : Nat} {x1 x2 y1 : Ids} {vF vM : Value} {next : Int} {K : List (Value × Int)} (h : Both2 B w gB i x1 x2 vF vM next K wr) (h1 : Half2 B w' gB (i + 1) y1) (o : Only x1.foot wr w') (hy : ∀ k, y1.foot k → x1.foot k ∨ wr.heap.size ≤ k) : Both2 B w gB (i + 1) y1 x2 vF vM next K w' := by
  obtain ⟨fs, bk, m, d, k, mr, dr, p⟩ := h.one
  have ty := fun q (e : x1.foot q) => (p.ty e).2
  have oT := OnlyT.of_only o ty
  have kl := h.kl
  have nl := h.nl
  refine ⟨h1, h.two.rest o (by omega) (fun q e => ?_) (fun q e => h.apart q e), fun q a b => ?_, h.book.only oT (by decide) (by decide) (by decide) (by decide), h.sh, by omega, by omega, h.nu, h.bel.trans (only_low o h.low (fun q e => (p.ty e).1))⟩
  · obtain ⟨cs, t, fr, a, b⟩ := ty q e
    exact ⟨cs, t, fr, a, not_two b (by decide) (by decide)⟩
  · rcases hy q a with c | c
    · exact h.apart q c b
    · have := h.two.lt b
      omega
/-- what is told goes into the book -/
theorem Both2.told {B : Nat} {w wr w' : World} {gB i : Nat} {x1 x2 : Ids} {vF vM : Value} {next : Int} {K : List (Value × Int)} (h : Both2 B w gB i x1 x2 vF vM next K wr) (hp : ToldPost B wr gB (.slice none 0 0) (.slice none 0 0) next K w') : ∃ vF' vM' K', Both2 B w gB (i + 1) x1 x2 vF' vM' (next - 2) K' w' := by
  obtain ⟨vF', vM', K', bk', kl', fs', b', o'⟩ := hp
  have kl := h.kl
  have nl := h.nl
  have nu := h.nu
  exact ⟨vF', vM', K', h.one.onlyT o' (by omega) (by decide) (by decide) (by decide) (by decide) (by decide) (by decide) (by decide) (by decide), h.two.onlyT o' (by omega) (by decide) (by decide) (by decide) (by decide) (by decide) (by decide) (by decide) (by decide), h.apart, bk', fs', by omega, by omega, by omega, h.bel.trans b'⟩

end Go.Proofs.YtgpojbgjfibblaaGreat.texts

namespace Go.Proofs.YtgpojbgjfibblaaGreat.texts
open Go.RowKit
set_option linter.unusedVariables false
attribute [local go_sem ↓] Go.wp_at_zero Go.wp_at_succ

/-- the next step of the script -/
theorem plays_step (B : Nat) (w wr : World) (gB i wd1 wd2 : Nat) (o : Oq) (h : TakesP B w gB i wd1 wd2 wr) (ho : o.ok) (hi : i ≤ 1048576) (hk : 1 ≤ o.kind ∧ o.kind ≤ 8) :
    Calls Tryz.prog 7 #[.pointer (some ⟨wd1, 0, none⟩), .agg o.cells] wr (Hands fun v w' => v = true ∧ TakesP B w gB (i + 1) wd1 wd2 w') := by
  have hb : Below wr.heap.size wr (wr.alloc (.cells o.cells 43)) := (Below.refl _ _).alloc (Nat.le_refl _) _
  have h0 := h
  have h' := h.grew hb (Nat.le_refl i)
  obtain ⟨x1, x2, vF, vM, next, K, rfl, rfl, P⟩ := h'
  obtain ⟨fs, bk, m, d, k, mr, dr, p⟩ := P.one
  have sent : ∀ w', SentPost B (wr.alloc (.cells o.cells 43)) x1.wd x1.gp x1.gs x1.ge x1.gl gB (.pointer (some ⟨x1.gr, 0, none⟩)) x1.vs bk fs d w' → TakesP B w gB (i + 1) x1.wd x2.wd w' := by
    intro w' hp
    obtain ⟨vs', h1, h2, o'⟩ := p.sent_ hp
    refine ⟨{ x1 with vs := vs' }, x2, vF, vM, next, K, rfl, rfl, P.step h1 o' ?_⟩
    rintro q (e | e | e | e | e | e | e | e)
    · exact Or.inl (Or.inl e)
    · exact Or.inl (Or.inr (Or.inl e))
    · exact Or.inl (Or.inr (Or.inr (Or.inl e)))
    · exact Or.inl (Or.inr (Or.inr (Or.inr (Or.inl e))))
    · exact Or.inl (Or.inr (Or.inr (Or.inr (Or.inr (Or.inl e)))))
    · exact Or.inl (Or.inr (Or.inr (Or.inr (Or.inr (Or.inr (Or.inl e))))))
    · exact Or.inl (Or.inr (Or.inr (Or.inr (Or.inr (Or.inr (Or.inr (Or.inl e)))))))
    · rcases h2 with e2 | ⟨g, e2, hg⟩
      · exact Or.inl (Or.inr (Or.inr (Or.inr (Or.inr (Or.inr (Or.inr (Or.inr (e2 ▸ e))))))))
      · right
        have e' : vs'.ownBlock = some q := e
        rw [e2] at e'
        simp at e'
        omega
  have took : ∀ w', TookPost B (wr.alloc (.cells o.cells 43)) x1.wd x1.gp gB x1.gr x1.gy x1.gf x1.gm x1.vs fs bk w' → TakesP B w gB (i + 1) x1.wd x2.wd w' := by
    intro w' hp
    obtain ⟨h1, o'⟩ := p.took_ hp
    exact ⟨x1, x2, vF, vM, next, K, rfl, rfl, P.step h1 o' (fun q e => Or.inl e)⟩
  have told : ∀ w', ToldPost B (wr.alloc (.cells o.cells 43)) gB (.slice none 0 0) (.slice none 0 0) next K w' → TakesP B w gB (i + 1) x1.wd x2.wd w' := by
    intro w' hp
    obtain ⟨vF', vM', K', P'⟩ := P.told hp
    exact ⟨x1, x2, vF', vM', next - 2, K', rfl, rfl, P'⟩
  have ps := p.sent
  have pf := p.few
  have kl := P.kl
  have nl := P.nl
  have nu := P.nu
  have cases8 : o.kind = 1 ∨ o.kind = 2 ∨ o.kind = 3 ∨ o.kind = 4 ∨ o.kind = 5 ∨ o.kind = 6 ∨ o.kind = 7 ∨ o.kind = 8 := by omega
  rcases cases8 with hk | hk | hk | hk | hk | hk | hk | hk
  · refine step_send o x1.wd wr _ hk ?_
    by_cases hbo : o.p.body.length ≤ 100
    · refine (wsend_short B x1.wd x1.gp x1.gs x1.ge x1.gl gB _ x1.vs fs bk m d k o.p _ p.wat p.sat p.ends ho.p hbo (by omega) (by omega)).mono ?_
      rintro e w2 ⟨rfl, hp⟩
      exact ⟨true, rfl, rfl, sent w2 hp⟩
    · refine (wsend_long B x1.wd x1.gp x1.gs x1.ge x1.gl gB _ x1.vs fs bk m d k o.p _ p.wat p.sat p.ends (by omega)).mono ?_
      rintro e w2 ⟨rfl, hp⟩
      exact ⟨true, rfl, rfl, sent w2 hp⟩
  · refine step_hear o x1.wd wr _ hk ?_
    refine (whear_any B x1.wd x1.gp x1.gs x1.ge x1.gl gB _ x1.vs fs bk m d k o.s _ p.wat p.sat p.ends ho.s).mono ?_
    rintro e w2 ⟨rfl, hp⟩
    exact ⟨true, rfl, rfl, sent w2 hp⟩
  · have hbk : wr.cell? ⟨x1.wd, 3, none⟩ = some (.string (bs bk)) := by
      obtain ⟨y1, y2, vF2, vM2, next2, K2, e1, e2, P2⟩ := h0
      obtain ⟨fs2, bk2, m2, d2, k2, mr2, dr2, p2⟩ := P2.one
      have c2 : wr.cell? ⟨y1.wd, 3, none⟩ = some (.string (bs bk2)) := block_cell p2.wat.blk 3
      rw [e1] at c2
      have c3 := keep_cell c2 hb
      have c4 : (wr.alloc (.cells o.cells 43)).cell? ⟨x1.wd, 3, none⟩ = some (.string (bs bk)) := block_cell p.wat.blk 3
      rw [c4] at c3
      rw [c2, ← c3]
    refine step_hears o x1.wd wr _ hk bk hbk ?_
    refine (whear_any B x1.wd x1.gp x1.gs x1.ge x1.gl gB _ x1.vs fs bk m d k bk _ p.wat p.sat p.ends (by have := p.back; unfold maxLen; omega)).mono ?_
    rintro e w2 ⟨rfl, hp⟩
    exact ⟨true, rfl, rfl, sent w2 hp⟩
  · refine step_sent o x1.wd wr _ hk ?_
    refine (wtold_snd B x1.wd x1.gp x1.gs x1.ge x1.gl gB _ x1.vs fs bk m d k vF vM _ _ next K _ p.wat p.sat p.ends (by omega) P.book P.sh (by omega) (by omega) (by omega)).mono ?_
    rintro e w2 ⟨rfl, hp⟩
    exact ⟨true, rfl, rfl, told w2 hp⟩
  · refine step_take o x1.wd wr _ hk ?_
    refine (wtake_any B x1.wd x1.gp gB x1.gr x1.gy x1.gf x1.gm x1.vs fs bk mr dr o.s _ p.wat p.rat p.endr (by have := ho.s; unfold maxLen at this; omega)).mono ?_
    rintro e w2 ⟨rfl, hp⟩
    exact ⟨true, rfl, rfl, took w2 hp⟩
  · refine step_pass o x1.wd wr _ hk ?_
    refine (wpassed_any B x1.wd x1.gp gB x1.gr x1.gy x1.gf x1.gm x1.vs fs bk mr dr o _ p.wat p.rat p.endr ho p.short (by omega)).mono ?_
    rintro e w2 ⟨rfl, hp⟩
    exact ⟨true, rfl, rfl, took w2 hp⟩
  · refine step_spoil o x1.wd wr _ hk ?_
    refine (wpassed_any B x1.wd x1.gp gB x1.gr x1.gy x1.gf x1.gm x1.vs fs bk mr dr o _ p.wat p.rat p.endr ho p.short (by omega)).mono ?_
    rintro e w2 ⟨rfl, hp⟩
    exact ⟨true, rfl, rfl, took w2 hp⟩
  · refine step_took o x1.wd wr _ hk ?_
    refine (wtold_rcv B x1.wd x1.gp gB x1.gr x1.gy x1.gf x1.gm x1.vs fs bk mr dr vF vM _ _ next K _ p.wat p.rat p.endr P.book P.sh (by omega) (by omega) (by omega)).mono ?_
    rintro e w2 ⟨rfl, hp⟩
    exact ⟨true, rfl, rfl, told w2 hp⟩
/-- what the first pair tells at the end -/
theorem plays_ends (B : Nat) (w wr : World) (gB i wd1 wd2 : Nat) (h : TakesP B w gB i wd1 wd2 wr) (hi : i ≤ 1048590) :
    Calls Tryz.prog 25 #[.pointer (some ⟨wd1, 0, none⟩)] wr fun e w' => e = .returned (.bool true) ∧ TakesP B w gB (i + 1 + 1) wd1 wd2 w' := by
  refine ends_any wd1 wr (fun w1 => TakesP B w gB (i + 1) wd1 wd2 w1) _ ?_ (fun w1 h1 => ?_)
  · obtain ⟨x1, x2, vF, vM, next, K, rfl, rfl, P⟩ := h
    obtain ⟨fs, bk, m, d, k, mr, dr, p⟩ := P.one
    have ps := p.sent
    have kl := P.kl
    have nl := P.nl
    have nu := P.nu
    refine (wtold_snd B x1.wd x1.gp x1.gs x1.ge x1.gl gB _ x1.vs fs bk m d k vF vM _ _ next K _ p.wat p.sat p.ends (by omega) P.book P.sh (by omega) (by omega) (by omega)).mono ?_
    rintro e w2 ⟨rfl, hp⟩
    obtain ⟨vF', vM', K', P'⟩ := P.told hp
    exact ⟨rfl, x1, x2, vF', vM', next - 2, K', rfl, rfl, P'⟩
  · obtain ⟨x1, x2, vF, vM, next, K, rfl, rfl, P⟩ := h1
    obtain ⟨fs, bk, m, d, k, mr, dr, p⟩ := P.one
    have kl := P.kl
    have nl := P.nl
    have nu := P.nu
    refine (wtold_rcv B x1.wd x1.gp gB x1.gr x1.gy x1.gf x1.gm x1.vs fs bk mr dr vF vM _ _ next K _ p.wat p.rat p.endr P.book P.sh (by omega) (by omega) (by omega)).mono ?_
    rintro e w2 ⟨rfl, hp⟩
    obtain ⟨vF', vM', K', P'⟩ := P.told hp
    exact ⟨rfl, x1, x2, vF', vM', next - 2, K', rfl, rfl, P'⟩
theorem plays_looks (B : Nat) (w wr : World) (gB i wd1 wd2 : Nat) (h : TakesP B w gB i wd1 wd2 wr) (hi : i ≤ 1048600) :
    Calls Tryz.prog 8 #[.pointer (some ⟨gB, 0, none⟩)] wr fun e w' => e = .returned (.bool true) ∧ TakesP B w gB i wd1 wd2 w' := by
  have h' := h
  obtain ⟨x1, x2, vF, vM, next, K, rfl, rfl, P⟩ := h
  have kl := P.kl
  refine (flooks_any B _ gB vF vM _ _ next K [] P.book P.sh (by omega) (TxAt.nil B _) (by simp)).mono ?_
  rintro e w2 ⟨rfl, hb⟩
  exact ⟨rfl, h'.grew hb (Nat.le_refl i)⟩

/-- the kinds in memory -/
def KindsAt (w : World) (kb : Nat) (ks : List Int) : Prop := ∀ (j : Nat) (hj : j < ks.length), w.cell? ⟨kb, j, none⟩ = some (.int .i64 ks[j])
theorem any_succ (ks : List Int) (K : Int) (j : Nat) (hj : j < ks.length) : (ks.take (j + 1)).any (· == K) = ((ks.take j).any (· == K) || (ks[j] == K)) := by
  rw [List.take_succ_eq_append_getElem hj, List.any_append]
  simp

set_option maxRecDepth 100000 in
set_option maxHeartbeats 8000000 in
theorem plays_yes (w : World) (c k r : Nat) (v : Value) (S : List Oq) (ao : Option Addr) (b off cap : Nat) (kb : Nat) (ks : List Int) (hT : OpsAt w v S ao b off cap) (hok : ∀ (i : Nat) (hi : i < S.length), (S[i]).ok) (hm : S.length ≤ 1048576) (hks : KindsAt w kb ks) (hk10 : ks.length ≤ 10) (hin : ∀ K ∈ ks, (1 ≤ K ∧ K ≤ 8) ∨ K = 10) (h1 : 1 ≤ c) (h2 : c ≤ 8) (h3 : 1 ≤ k) (h4 : k ≤ 4) (h5 : 2 ≤ r) (h6 : r ≤ 100) :
    Calls Tryz.prog 10 #[.agg #[.int .i64 c, .int .i64 k, .int .i64 r], v, .slice (some ⟨kb, 0, none⟩) ks.length ks.length] w fun e w' => e = .returned (.bool true) ∧ Below w.heap.size w w' := by
  obtain ⟨rfl, ha, hcell⟩ := hT
  have HT : Hid (OpsAt w (.slice ao S.length cap) S ao b off cap) := ⟨rfl, ha, hcell⟩
  have HA := hide ha
  have HOK := hide hok
  have HKS := hide hks
  have HIN0 := hide hin
  have CF0 := hide (block_alloc (heap_alloc_new w (.cells #[.int .i64 (c : Int), .int .i64 (k : Int), .int .i64 (r : Int)] 23)) (.cells #[.slice none 0 0, .slice none 0 0, .slice none 0 0, .slice none 0 0, .int .i64 0] 31))
  have BK0 := hide (bk_new w.heap.size (w.alloc (.cells #[.int .i64 (c : Int), .int .i64 (k : Int), .int .i64 (r : Int)] 23)) (by simp))
  have BB0 := hide (((Below.refl _ _).alloc (Nat.le_refl _) _).alloc (by simp) _ : Below w.heap.size w ((w.alloc (.cells #[.int .i64 (c : Int), .int .i64 (k : Int), .int .i64 (r : Int)] 23)).alloc (.cells #[.slice none 0 0, .slice none 0 0, .slice none 0 0, .slice none 0 0, .int .i64 0] 31)))
  clear ha hcell hok hks hin
  obtain ⟨nk, hnk⟩ : ∃ nk, nk = ks.length := ⟨_, rfl⟩
  rw [← hnk] at hk10 ⊢
  have Hnk := hide hnk
  clear hnk
  go_enter Tryz.func10, Tryz.ntmps10
  go_wp2_with fail
  go_at_call 24
  refine (begun_yes c k r _ _ h1 h2 h3 h4 h5 h6).mono ?_
  rintro e w1 ⟨wd1, gp1, gs1, ge1, gl1, gr1, gy1, gf1, gm1, rfl, a1, a2, a3, a4, a5, a6, a7, nef1, nlm1, W1, S1, R1, b1⟩
  have z0 := (unhide BB0).size
  have HW1 := hide (W1.dn z0)
  have HS1 := hide (S1.dn z0)
  have HR1 := hide (R1.dn z0)
  have HB1 := hide (grew_call (unhide BB0) b1)
  have HK1 := hide ((unhide BK0).grew b1)
  have CF1 := block_keep (unhide CF0) b1
  have c0 : w1.cell? ⟨w.heap.size, 0, none⟩ = some (.int .i64 (c : Int)) := block_cell CF1 0
  have c1 : w1.cell? ⟨w.heap.size, 1, none⟩ = some (.int .i64 (k : Int)) := block_cell CF1 1
  have c2 : w1.cell? ⟨w.heap.size, 2, none⟩ = some (.int .i64 (r : Int)) := block_cell CF1 2
  have egB : (w.alloc (.cells #[.int .i64 (c : Int), .int .i64 (k : Int), .int .i64 (r : Int)] 23)).heap.size = w.heap.size + 1 := by simp
  rw [egB] at HK1
  clear CF1 CF0 BK0 BB0 b1 W1 S1 R1 egB
  generalize w.heap.size + 1 = gB at HW1 HK1 ⊢
  go_wp2_with fail
  go_at_call 6
  refine (other_any c k r _ (by omega) (by omega) (by omega) (by omega) (by omega) (by omega)).mono ?_
  rintro e w2 ⟨rfl, b2⟩
  have HW2 := hide ((unhide HW1).grew b2)
  have HS2 := hide ((unhide HS1).grew b2)
  have HR2 := hide ((unhide HR1).grew b2)
  have HB2 := hide (grew_call (unhide HB1) b2)
  have HK2 := hide ((unhide HK1).grew b2)
  rw [show (9 : Int) - (c : Int) = ((9 - c : Nat) : Int) by omega, show (5 : Int) - (k : Int) = ((5 - k : Nat) : Int) by omega, show (102 : Int) - (r : Int) = ((102 - r : Nat) : Int) by omega]
  clear b2 HW1 HS1 HR1 HB1 HK1 c0 c1 c2
  go_wp2_with fail
  go_at_call 24
  refine (begun_yes (9 - c) (5 - k) (102 - r) _ _ (by omega) (by omega) (by omega) (by omega) (by omega) (by omega)).mono ?_
  rintro e w3 ⟨wd2, gp2, gs2, ge2, gl2, gr2, gy2, gf2, gm2, rfl, d1, d2, d3, d4, d5, d6, d7, nef2, nlm2, W3, S3, R3, b3⟩
  have z2 := (unhide HB2).size
  have P1 : Half2 w.heap.size w2 gB 0 ⟨wd1, gp1, gs1, ge1, gl1, gr1, gy1, gf1, gm1, .slice none 0 0⟩ := ⟨[], [], _, _, 0, _, _, unhide HW2, unhide HS2, ends_fresh h1 h2 h3 h4 h5 h6, unhide HR2, freshR_rel h1 h2, Nat.le_refl _, Nat.le_refl _, fun f hf => by simp at hf, by simp, nef1, nlm1⟩
  have P2 : Half2 w.heap.size w3 gB 0 ⟨wd2, gp2, gs2, ge2, gl2, gr2, gy2, gf2, gm2, .slice none 0 0⟩ := ⟨[], [], _, _, 0, _, _, W3.dn z2, S3.dn z2, ends_fresh (by omega) (by omega) (by omega) (by omega) (by omega) (by omega), R3.dn z2, freshR_rel (by omega) (by omega), Nat.le_refl _, Nat.le_refl _, fun f hf => by simp at hf, by simp, nef2, nlm2⟩
  have IN0 : TakesP w.heap.size w gB 0 wd1 wd2 w3 := by
    refine ⟨_, _, _, _, 0, [], rfl, rfl, P1.grew b3 (Nat.le_refl _), P2, fun q hq hq2 => ?_, (unhide HK2).grew b3, fun e he => by simp at he, by simp, by omega, by omega, grew_call (unhide HB2) b3⟩
    have hlt := P1.lt hq
    rcases hq2 with e | e | e | e | e | e | e | e
    · simp only at e; omega
    · simp only at e; omega
    · simp only at e; omega
    · simp only at e; omega
    · simp only at e; omega
    · simp only at e; omega
    · simp only at e; omega
    · simp [Value.ownBlock] at e
  have HIN1 := hide IN0
  clear IN0 W3 S3 R3 b3 HW2 HS2 HR2 HB2 HK2 P1 P2
  go_wp2_with fail
  go_loopw [8, 9, 10, 11] (fun wv okv vv iv wr => ∃ (i d1 d2 : Nat), i ≤ S.length ∧ iv = .int .i64 i ∧ wv = .pointer (some ⟨d1, 0, none⟩) ∧ okv = .bool true ∧ vv = .pointer (some ⟨d2, 0, none⟩) ∧ TakesP w.heap.size w gB i d1 d2 wr) (fun _ _ _ iv _ => S.length - (intOf iv).toNat)
  case atStart => exact ⟨0, wd1, wd2, by omega, rfl, rfl, rfl, rfl, unhide HIN1⟩
  case round =>
    clear HIN1
    obtain ⟨i, e1, e2, hi, rfl, rfl, rfl, rfl, hin⟩ := hrel
    have HIN := hide hin
    by_cases hlt : i < S.length
    · obtain rfl := unhide HA (by omega)
      obtain ⟨o, ho⟩ : ∃ o, S[i] = o := ⟨_, rfl⟩
      have hook : o.ok := by rw [← ho]; exact unhide HOK i hlt
      have HO := hide hook
      have Ho := hide ho
      have i0 : (0 : Int) ≤ (i : Int) := by omega
      have i1 : (i : Int) < (S.length : Int) := by omega
      clear hin hook ho
      go_wp2_with fail
      go_loopw [12, 13] (fun gv jv wr2 => ∃ j : Nat, j ≤ nk ∧ jv = .int .i64 j ∧ gv = .bool ((ks.take j).any (· == o.kind)) ∧ TakesP w.heap.size w gB i e1 e2 wr2) (fun _ jv _ => nk - (intOf jv).toNat)
      case atStart => exact ⟨0, by omega, rfl, rfl, unhide HIN⟩
      case round =>
        rename_i gv jv wr2
        clear HIN
        obtain ⟨j, hj, rfl, rfl, hin2⟩ := hrel
        obtain ⟨q0, q1, q2, q3, q4, q5, q6, q7, q8, q9, q10⟩ := (unhide HT).cells hin2.below hlt (unhide Ho)
        have HIN2 := hide hin2
        by_cases hjn : j < nk
        · have hjk : j < ks.length := by rw [← unhide Hnk]; exact hjn
          have kc := keep_cell (unhide HKS j hjk) hin2.below
          have HAS := hide (any_succ ks o.kind j hjk)
          obtain ⟨Kj, hKj⟩ : ∃ Kj, Kj = ks[j] := ⟨_, rfl⟩
          rw [← hKj] at kc HAS
          have j0 : (0 : Int) ≤ (j : Int) := by omega
          have j1 : (j : Int) < (nk : Int) := by omega
          clear hin2 hKj
          generalize (ks.take j).any (· == o.kind) = G at *
          cases G with
          | true =>
            go_wp2_with fail
            go_quiet (fail)
            all_goals go_wp2
            all_goals go_roundw
            case rel => exact ⟨j + 1, by omega, by go_num, by rw [unhide HAS]; rfl, (unhide HIN2).grew (below_drewN (Below.refl _ _) _) (Nat.le_refl _)⟩
            case measure => simp [intOf]; omega
          | false =>
            go_wp2_with fail
            go_quiet (fail)
            all_goals go_wp2
            all_goals go_roundw
            case rel => exact ⟨j + 1, by omega, by go_num, by rw [unhide HAS]; rfl, (unhide HIN2).grew (below_drewN (Below.refl _ _) _) (Nat.le_refl _)⟩
            case measure => simp [intOf]; omega
        · have ej : j = nk := by omega
          subst ej
          have hall : (ks.take j).any (· == o.kind) = ks.any (· == o.kind) := by rw [unhide Hnk, List.take_length]
          rw [hall]
          clear hin2 hall
          cases hG : ks.any (· == o.kind) with
          | false =>
            clear hG
            go_wp2_with fail
            go_roundw
            case rel => exact ⟨i + 1, e1, e2, by omega, by go_num, rfl, rfl, rfl, (unhide HIN2).grew (Below.refl _ _) (Nat.le_succ i)⟩
            case measure => simp [intOf]; omega
          | true =>
            have hkin : (1 ≤ o.kind ∧ o.kind ≤ 8) ∨ o.kind = 10 := by
              obtain ⟨K, hK, hK2⟩ := List.any_eq_true.1 hG
              rw [beq_iff_eq] at hK2
              rw [← hK2]
              exact unhide HIN0 K hK
            clear hG
            obtain ⟨K, n, p, s⟩ := o
            simp only at hkin
            by_cases k10 : K = 10
            · subst k10
              clear hkin
              go_wp2_with (go_at_call 8; refine (plays_looks w.heap.size w _ gB i e1 e2 (unhide HIN2) (by omega)).mono ?_; rintro e w6 ⟨rfl, h6⟩; have HIN3 := hide ((h6.grew (Below.refl _ _) (Nat.le_succ i)).swap); clear h6)
              go_roundw
              case rel => exact ⟨i + 1, e2, e1, by omega, by go_num, rfl, rfl, rfl, unhide HIN3⟩
              case measure => simp [intOf]; omega
            · have hk8 : 1 ≤ K ∧ K ≤ 8 := by omega
              have HK8 := hide hk8
              have kb10 : (K == 10) = false := beq_eq_false_iff_ne.2 k10
              clear hkin hk8
              go_wp2_with (first
                | (go_at_call 7; refine (plays_step w.heap.size w _ gB i e1 e2 ⟨K, n, p, s⟩ (unhide HIN2) (unhide HO) (by omega) (unhide HK8)).mono ?_; rintro e w5 ⟨v, rfl, rfl, h5⟩; have HIN3 := hide h5; clear h5)
                | (go_at_call 8; refine (plays_looks w.heap.size w _ gB (i + 1) e1 e2 (unhide HIN3) (by omega)).mono ?_; rintro e w6 ⟨rfl, h6⟩; have HIN4 := hide h6; clear h6))
              go_roundw
              case rel => exact ⟨i + 1, e1, e2, by omega, by go_num, rfl, rfl, rfl, unhide HIN4⟩
              case measure => simp [intOf]; omega
    · have e : i = S.length := by omega
      subst e
      clear hin
      go_wp2_with fail
      go_at_call 25
      refine (plays_ends w.heap.size w _ gB S.length e1 e2 (unhide HIN) (by omega)).mono ?_
      rintro e w5 ⟨rfl, h5⟩
      have HIN2 := hide h5.swap
      clear h5 HIN
      go_wp2_with fail
      go_at_call 25
      refine (plays_ends w.heap.size w _ gB (S.length + 1 + 1) e2 e1 (unhide HIN2) (by omega)).mono ?_
      rintro e w6 ⟨rfl, h6⟩
      have HIN3 := hide h6
      clear h6 HIN2
      go_wp2_with fail
      go_at_call 8
      refine (plays_looks w.heap.size w _ gB (S.length + 1 + 1 + 1 + 1) e2 e1 (unhide HIN3) (by omega)).mono ?_
      rintro e w7 ⟨rfl, h7⟩
      have HB := hide h7.below
      clear h7 HIN3
      go_wp2_with fail
      go_ret
      exact ⟨rfl, unhide HB⟩

set_option maxRecDepth 100000 in
set_option maxHeartbeats 4000000 in
theorem plays_no (w : World) (c k r : Int) (v u : Value) (h : confB c k r = false) :
    Calls Tryz.prog 10 #[.agg #[.int .i64 c, .int .i64 k, .int .i64 r], v, u] w fun e w' => e = .returned (.bool true) ∧ Below w.heap.size w w' := by
  have BB0 := hide (((Below.refl _ _).alloc (Nat.le_refl _) _).alloc (by simp) _ : Below w.heap.size w ((w.alloc (.cells #[.int .i64 c, .int .i64 k, .int .i64 r] 23)).alloc (.cells #[.slice none 0 0, .slice none 0 0, .slice none 0 0, .slice none 0 0, .int .i64 0] 31)))
  have HC := hide h
  clear h
  go_enter Tryz.func10, Tryz.ntmps10
  go_wp2_with fail
  go_at_call 24
  refine (begun_no c k r _ _ (unhide HC)).mono ?_
  rintro e w1 ⟨rfl, b1⟩
  have HB1 := hide (grew_call (unhide BB0) b1)
  clear b1 BB0
  go_wp2_with fail
  go_ret
  exact ⟨rfl, unhide HB1⟩
theorem plays_any (w : World) (c k r : Int) (v : Value) (S : List Oq) (ao : Option Addr) (b off cap : Nat) (kb : Nat) (ks : List Int) (hT : OpsAt w v S ao b off cap) (hok : ∀ (i : Nat) (hi : i < S.length), (S[i]).ok) (hm : S.length ≤ 1048576) (hks : KindsAt w kb ks) (hk10 : ks.length ≤ 10) (hin : ∀ K ∈ ks, (1 ≤ K ∧ K ≤ 8) ∨ K = 10) :
    Calls Tryz.prog 10 #[.agg #[.int .i64 c, .int .i64 k, .int .i64 r], v, .slice (some ⟨kb, 0, none⟩) ks.length ks.length] w fun e w' => e = .returned (.bool true) ∧ Below w.heap.size w w' := by
  cases h : confB c k r with
  | false => exact plays_no w c k r v _ h
  | true =>
    have hc : 1 ≤ c ∧ c ≤ 8 ∧ 1 ≤ k ∧ k ≤ 4 ∧ 2 ≤ r ∧ r ≤ 100 := of_decide_eq_true h
    obtain ⟨c', rfl⟩ : ∃ c' : Nat, c = c' := ⟨c.toNat, by omega⟩
    obtain ⟨k', rfl⟩ : ∃ k' : Nat, k = k' := ⟨k.toNat, by omega⟩
    obtain ⟨r', rfl⟩ : ∃ r' : Nat, r = r' := ⟨r.toNat, by omega⟩
    exact plays_yes w c' k' r' v S ao b off cap kb ks hT hok hm hks hk10 hin (by omega) (by omega) (by omega) (by omega) (by omega) (by omega)

end Go.Proofs.YtgpojbgjfibblaaGreat.texts

namespace Go.Proofs.YtgpojbgjfibblaaGreat.texts
open Go.RowKit
set_option linter.unusedVariables false
attribute [local go_sem ↓] Go.wp_at_zero Go.wp_at_succ

theorem OpsAt.keep {w w1 : World} {v : Value} {S : List Oq} {ao : Option Addr} {b off cap : Nat} (h : OpsAt w v S ao b off cap) (hb : Below w.heap.size w w1) : OpsAt w1 v S ao b off cap :=
  ⟨h.form, h.addr, fun i hi j hj => by
    have hs : j < (S[i]).cells.size := hj
    have e := h.cell i hi j hj
    rw [Array.getElem?_eq_getElem hs] at e ⊢
    exact keep_cell e hb⟩

set_option maxRecDepth 100000 in
set_option maxHeartbeats 4000000 in
theorem takes_any (w : World) (c k r : Int) (v : Value) (S : List Oq) (ao : Option Addr) (b off cap : Nat) (hT : OpsAt w v S ao b off cap) (hok : ∀ (i : Nat) (hi : i < S.length), (S[i]).ok) (hm : S.length ≤ 1048576) :
    Calls Tryz.prog 4 #[.agg #[.int .i64 c, .int .i64 k, .int .i64 r], v] w fun e w' => e = .returned (.bool true) ∧ Below w.heap.size w w' := by
  have HT := hide hT
  have HOK := hide hok
  obtain rfl := hT.form
  clear hT hok
  have hb : Below w.heap.size w ((w.alloc (.cells #[.int .i64 c, .int .i64 k, .int .i64 r] 23)).alloc (.cells #[.int .i64 1, .int .i64 2, .int .i64 3, .int .i64 5, .int .i64 6, .int .i64 7, .int .i64 8, .int .i64 10] 3)) := ((Below.refl _ _).alloc (Nat.le_refl _) _).alloc (by simp) _
  have HB := hide hb
  have KB := heap_alloc_new (w.alloc (.cells #[.int .i64 c, .int .i64 k, .int .i64 r] 23)) (.cells #[.int .i64 1, .int .i64 2, .int .i64 3, .int .i64 5, .int .i64 6, .int .i64 7, .int .i64 8, .int .i64 10] 3)
  have e1 : (w.alloc (.cells #[.int .i64 c, .int .i64 k, .int .i64 r] 23)).heap.size = w.heap.size + 1 := by simp
  rw [e1] at KB
  have HKS : Hid (KindsAt ((w.alloc (.cells #[.int .i64 c, .int .i64 k, .int .i64 r] 23)).alloc (.cells #[.int .i64 1, .int .i64 2, .int .i64 3, .int .i64 5, .int .i64 6, .int .i64 7, .int .i64 8, .int .i64 10] 3)) (w.heap.size + 1) [1, 2, 3, 5, 6, 7, 8, 10]) := by
    intro j hj
    rw [block_cell KB]
    match j, hj with
    | 0, _ => rfl
    | 1, _ => rfl
    | 2, _ => rfl
    | 3, _ => rfl
    | 4, _ => rfl
    | 5, _ => rfl
    | 6, _ => rfl
    | 7, _ => rfl
  clear hb KB e1
  go_enter Tryz.func4, Tryz.ntmps4
  go_wp2_with fail
  go_at_call 10
  refine (plays_any _ c k r _ S ao b off cap (w.heap.size + 1) [1, 2, 3, 5, 6, 7, 8, 10] ((unhide HT).keep (unhide HB)) (unhide HOK) hm (unhide HKS) (by decide) (by decide)).mono ?_
  rintro e w1 ⟨rfl, b1⟩
  have HB1 := hide (grew_call (unhide HB) b1)
  clear b1
  go_wp2_with fail
  go_ret
  exact ⟨rfl, unhide HB1⟩

end Go.Proofs.YtgpojbgjfibblaaGreat.texts
