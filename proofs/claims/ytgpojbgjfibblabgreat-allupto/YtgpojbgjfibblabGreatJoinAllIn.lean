/-
  The walks of told on the receiver's side, of step's other kinds, of ends and of begun (package gistlaw). Two pairs of ends and the book, in memory (package gistlaw): what each step keeps. A world's last frames joined and split (package gistlaw): the walk of bundle. Two pairs of ends and the book with both its halves, in memory (package gistlaw): what each step keeps.
  Conditions stand in each theorem.
-/
import Derived.Test.YtgpojbgjfibblabGreatTakesWalk
import Derived.Test.YtgpojbgjfibblabGreatPart41
namespace Go.Proofs.YtgpojbgjfibblabGreat.texts
open Go.RowKit
set_option linter.unusedVariables false
attribute [local go_sem ↓] Go.wp_at_zero Go.wp_at_succ
attribute [local go_sem] bs_size

set_option maxRecDepth 100000 in
set_option maxHeartbeats 8000000 in
theorem wtold_rcv (B : Nat) (wd gp gB gr gy ge gl : Nat) (vs : Value) (fs : List (List UInt8)) (bk : List UInt8) (m : Rcv) (d : Doc) (vF vM vT vN : Value) (next : Int) (K : List (Value × Int)) (w : World) (hW : WAt B w wd gp gB (.pointer (some ⟨gr, 0, none⟩)) vs fs bk) (hS : RAt B w gr gy ge gl m d) (hE : EndsR m d)
    (hK : BkAt B w gB vF vM vT vN next K) (hFS : FShorts K) (hlen : K.length ≤ 268435456) (h0 : -268435456 ≤ next) (h1 : next ≤ 268435456) :
    Calls Tryz.prog 16 #[.pointer (some ⟨wd, 0, none⟩), .bool false] w fun e w' => e = .returned (.bool true) ∧ ToldPost B w gB vT vN next K w' := by
  have HW := hide hW
  have HS := hide hS
  have HE := hide hE
  have HK := hide hK
  have HFS := hide hFS
  have hBw : B ≤ w.heap.size := by have := block_lt hK.blk; have := hK.low; omega
  have hc8 := hE.ok.c8
  obtain ⟨f1, f2⟩ := hE.flows
  have F1 := hide f1
  have F2 := hide f2
  have c0 : w.cell? ⟨wd, 1, none⟩ = some (.pointer (some ⟨gr, 0, none⟩)) := block_cell hW.blk 1
  have c1 : w.cell? ⟨gr, 1, none⟩ = some (.pointer (some ⟨gy, 0, none⟩)) := block_cell hS.pair 1
  have c2 : w.cell? ⟨gr, 2, none⟩ = some (.pointer (some ⟨ge, 0, none⟩)) := block_cell hS.pair 2
  have c4 : w.cell? ⟨wd, 4, none⟩ = some (.pointer (some ⟨gB, 0, none⟩)) := block_cell hW.blk 4
  obtain ⟨hrows, hrl⟩ := rflows_rows m 8
  have hcn := rcountK_le m 8
  obtain ⟨C, hC⟩ : ∃ C, C = rcountK m 8 := ⟨_, rfl⟩
  obtain ⟨X, hX⟩ : ∃ X, X = rflowsK m 8 := ⟨_, rfl⟩
  rw [← hC] at hrows hcn
  rw [← hX] at hrows
  have HR := hide hrows
  have HC := hide hC
  have HX := hide hX
  have C0 := hide c0
  have C1 := hide c1
  have C2 := hide c2
  have C4 := hide c4
  have HD8 := hide (show d.cs.length ≤ 8 by rw [hE.rel.len]; exact hc8)
  clear hW hS hE hK hFS f1 f2 hrows hrl hC hX
  go_enter Tryz.func16, Tryz.ntmps16
  go_wp2_with fail
  go_at_call 28
  refine (grflows_any m gy _ (unhide HE).ok (unhide HS).rcv).mono ?_
  rintro e w1 ⟨l, rfl, o1, b1⟩
  rw [← unhide HC, ← unhide HX] at o1
  have HO1 := hide o1
  have HB1 := hide b1
  have c0 := keep_cell (unhide C0) b1
  have c1 := keep_cell (unhide C1) b1
  clear o1 b1
  go_wp2_with fail
  go_at_call 28
  refine (grflows_any m gy _ (unhide HE).ok ((unhide HS).grew (unhide HB1)).rcv).mono ?_
  rintro e w2 ⟨q, rfl, o2, b2⟩
  rw [← unhide HC, ← unhide HX] at o2
  have HO2 := hide o2
  have HO1' := hide (own_same (unhide HO1) (fun g hg => by obtain ⟨cur, hc⟩ := own_ty (unhide HO1) hg; exact b2.block g (block_lt hc)))
  have HQ := hide (fun g hg g' hg' => by
    have h1 := ((unhide HO1).lt g hg).2
    have h2 := (o2.lt g' hg').1
    omega : ∀ g, l.ownBlock = some g → ∀ g', q.ownBlock = some g' → g ≠ g')
  have HB2 := hide (grew_call (unhide HB1) b2)
  have hz1 := (unhide HB1).size
  have c0 := keep_cell (unhide C0) (unhide HB2)
  have c2 := keep_cell (unhide C2) (unhide HB2)
  clear o2 b2 c1 HO1 HB1
  go_wp2_with fail
  go_at_call 27
  refine (dflows_any d ge gl _ ((unhide HS).grew (unhide HB2)).doc (fun i hi => StsAt.of_own (((unhide HS).grew (unhide HB2)).sts i hi).1 (by have := (((unhide HS).grew (unhide HB2)).sts i hi).2; omega)) (unhide HE).fine (unhide HD8)).mono ?_
  rintro e w3 ⟨r, rfl, o3, b3⟩
  rw [unhide F1, unhide F2, ← unhide HC, ← unhide HX] at o3
  have HO3 := hide o3
  have HO1 := hide (own_same (unhide HO1') (fun g hg => by obtain ⟨cur, hc⟩ := own_ty (unhide HO1') hg; exact b3.block g (block_lt hc)))
  have HO2' := hide (own_same (unhide HO2) (fun g hg => by obtain ⟨cur, hc⟩ := own_ty (unhide HO2) hg; exact b3.block g (block_lt hc)))
  have HB3 := hide (grew_call (unhide HB2) b3)
  obtain ⟨al, cl, hl⟩ := own_sl (unhide HO1)
  obtain ⟨aq, cq, hq⟩ := own_sl (unhide HO2')
  obtain ⟨ar, cr, hr⟩ := own_sl o3
  have Hl := hide hl
  have Hq := hide hq
  clear o3 b3 c0 c2 HO1' HO2 HB2 hl hq hr
  go_wp2_with fail
  go_at_call 29
  refine (sameFlows_any _ l r C _ _ X (unhide HO1) (unhide HO3) (unhide HR) (by omega)).mono ?_
  rintro e w4 ⟨rfl, b4⟩
  have HB4 := hide b4
  clear b4
  go_wp2_with fail
  go_at_call 29
  refine (sameFlows_any _ q r C _ _ X (own_same (unhide HO2') (fun g hg => by obtain ⟨cur, hc⟩ := own_ty (unhide HO2') hg; exact (unhide HB4).block g (block_lt hc))) (own_same (unhide HO3) (fun g hg => by obtain ⟨cur, hc⟩ := own_ty (unhide HO3) hg; exact (unhide HB4).block g (block_lt hc))) (unhide HR) (by omega)).mono ?_
  rintro e w5 ⟨rfl, b5⟩
  have HB45 := hide (grew_call (unhide HB4) b5)
  have HB5 := hide (grew_call (unhide HB3) (unhide HB45))
  have L5 := hide (own_dn (own_same (unhide HO1) (fun g hg => by obtain ⟨cur, hc⟩ := own_ty (unhide HO1) hg; exact (unhide HB45).block g (block_lt hc))) hBw)
  have Q5 := hide (own_dn (own_same (unhide HO2') (fun g hg => by obtain ⟨cur, hc⟩ := own_ty (unhide HO2') hg; exact (unhide HB45).block g (block_lt hc))) (Nat.le_trans hBw hz1))
  have lnew := hide (fun g hg => ((unhide HO1).lt g hg).1 : ∀ g, l.ownBlock = some g → w.heap.size ≤ g)
  have qnew := hide (fun g hg => Nat.le_trans hz1 ((unhide HO2').lt g hg).1 : ∀ g, q.ownBlock = some g → w.heap.size ≤ g)
  have c4 := keep_cell (unhide C4) (unhide HB5)
  clear b5 HO1 HO2' HO3 HB3 HB4 HB45
  go_wp2_with fail
  go_at_call 30
  refine (fowns_any B _ gB vF vM vT vN next K l C X ((unhide HK).grew (unhide HB5)) (by omega) (by omega) (by omega) (unhide L5) (by omega) (fun e he g hg h2 => by have h3 := unhide lnew g hg; have h4 := bk_old (unhide HK) he h2; omega)).mono ?_
  rintro e w6 ⟨rfl, vF6, vM6, K6, k6, n6, s6, nw6, b6, t6⟩
  have HK6 := hide k6
  have HS6 := hide (s6 (unhide HFS))
  have HNW := hide nw6
  have HB6 := hide b6
  have HT6 := hide t6
  have W6 := ((unhide HW).grew (unhide HB5)).onlyT t6.onlyT (by decide) (by decide)
  have c4 : w6.cell? ⟨wd, 4, none⟩ = some (.pointer (some ⟨gB, 0, none⟩)) := block_cell W6.blk 4
  have Q6 := hide (own_same (unhide Q5) (fun g hg => by
    obtain ⟨cur, hc⟩ := own_ty (unhide Q5) hg
    exact t6.flow g cur _ hc (fun e => unhide HQ g e g hg rfl)))
  have QK := hide (fun e he g hg h2 => by
    obtain ⟨cur, hc⟩ := own_ty (unhide Q5) hg
    have hlt := block_lt hc
    rcases nw6 e he with h3 | h3 | h3
    · have h4 := bk_old (unhide HK) h3 h2
      have h5 := unhide qnew g hg
      omega
    · rw [h2] at h3
      exact unhide HQ g h3.symm g hg rfl
    · have := h3 g h2
      omega : ∀ e ∈ K6, ∀ g, q.ownBlock = some g → e.1.ownBlock ≠ some g)
  clear k6 s6 nw6 b6 t6 W6 L5 Q5 HNW HQ
  go_wp2_with fail
  go_at_call 30
  refine (fowns_any B _ gB vF6 vM6 vT vN (next - 1) K6 q C X (unhide HK6) (by omega) (by omega) (by omega) (unhide Q6) (by omega) (unhide QK)).mono ?_
  rintro e w7 ⟨rfl, vF7, vM7, K7, k7, n7, s7, nw7, b7, t7⟩
  have fin := hide (show ToldPost B w gB vT vN next K w7 from ⟨vF7, vM7, K7, by rw [show next - 2 = next - 1 - 1 by omega]; exact k7, by omega, s7 (unhide HS6), ((unhide HB5).mono hBw).trans ((unhide HB6).trans b7), (OnlyT.of_below (unhide HB5)).trans ((unhide HT6).onlyT.trans t7.onlyT)⟩)
  clear k7 n7 s7 nw7 b7 t7 Q6 QK HK6 HS6 HB6 HT6
  go_wp2
  go_ret
  exact ⟨rfl, unhide fin⟩


set_option maxRecDepth 100000 in
set_option maxHeartbeats 2000000 in
theorem step_hears (o : Oq) (wd : Nat) (w : World) (Q : Bool → World → Prop) (hk : o.kind = 3) (bk : List UInt8) (hb : w.cell? ⟨wd, 3, none⟩ = some (.string (bs bk))) (h : Calls Tryz.prog 15 #[.pointer (some ⟨wd, 0, none⟩), .string (bs bk)] (w.alloc (.cells o.cells 45)) (Hands Q)) :
    Calls Tryz.prog 7 #[.pointer (some ⟨wd, 0, none⟩), .agg o.cells] w (Hands Q) := by
  have H := hide h
  clear h
  have hwl := lt_of_cell hb
  unfold Oq.cells
  rw [hk]
  go_enter Tryz.func7, Tryz.ntmps7
  go_wp2_with (go_at_call 15; refine Stop.out ?_)
  refine ⟨?_⟩
  have h := unhide H
  unfold Oq.cells at h
  rw [hk] at h
  refine Calls.mono h ?_
  rintro e w1 ⟨v, rfl, h1⟩
  have H1 := hide h1
  clear h1 h H
  go_wp2_with fail
  go_ret
  exact ⟨v, rfl, unhide H1⟩

set_option maxRecDepth 100000 in
set_option maxHeartbeats 2000000 in
theorem step_take (o : Oq) (wd : Nat) (w : World) (Q : Bool → World → Prop) (hk : o.kind = 5) (h : Calls Tryz.prog 17 #[.pointer (some ⟨wd, 0, none⟩), .string (bs o.s)] (w.alloc (.cells o.cells 45)) (Hands Q)) :
    Calls Tryz.prog 7 #[.pointer (some ⟨wd, 0, none⟩), .agg o.cells] w (Hands Q) := by
  have H := hide h
  clear h
  unfold Oq.cells
  rw [hk]
  go_enter Tryz.func7, Tryz.ntmps7
  go_wp2_with (go_at_call 17; refine Stop.out ?_)
  refine ⟨?_⟩
  have h := unhide H
  unfold Oq.cells at h
  rw [hk] at h
  refine Calls.mono h ?_
  rintro e w1 ⟨v, rfl, h1⟩
  have H1 := hide h1
  clear h1 h H
  go_wp2_with fail
  go_ret
  exact ⟨v, rfl, unhide H1⟩

set_option maxRecDepth 100000 in
set_option maxHeartbeats 2000000 in
theorem step_pass (o : Oq) (wd : Nat) (w : World) (Q : Bool → World → Prop) (hk : o.kind = 6) (h : Calls Tryz.prog 18 #[.pointer (some ⟨wd, 0, none⟩), .agg o.cells] (w.alloc (.cells o.cells 45)) (Hands Q)) :
    Calls Tryz.prog 7 #[.pointer (some ⟨wd, 0, none⟩), .agg o.cells] w (Hands Q) := by
  have H := hide h
  clear h
  unfold Oq.cells
  rw [hk]
  go_enter Tryz.func7, Tryz.ntmps7
  go_wp2_with (go_at_call 18; refine Stop.out ?_)
  refine ⟨?_⟩
  have h := unhide H
  unfold Oq.cells at h
  rw [hk] at h
  refine Calls.mono h ?_
  rintro e w1 ⟨v, rfl, h1⟩
  have H1 := hide h1
  clear h1 h H
  go_wp2_with fail
  go_ret
  exact ⟨v, rfl, unhide H1⟩

set_option maxRecDepth 100000 in
set_option maxHeartbeats 2000000 in
theorem step_spoil (o : Oq) (wd : Nat) (w : World) (Q : Bool → World → Prop) (hk : o.kind = 7) (h : Calls Tryz.prog 18 #[.pointer (some ⟨wd, 0, none⟩), .agg o.cells] (w.alloc (.cells o.cells 45)) (Hands Q)) :
    Calls Tryz.prog 7 #[.pointer (some ⟨wd, 0, none⟩), .agg o.cells] w (Hands Q) := by
  have H := hide h
  clear h
  unfold Oq.cells
  rw [hk]
  go_enter Tryz.func7, Tryz.ntmps7
  go_wp2_with (go_at_call 18; refine Stop.out ?_)
  refine ⟨?_⟩
  have h := unhide H
  unfold Oq.cells at h
  rw [hk] at h
  refine Calls.mono h ?_
  rintro e w1 ⟨v, rfl, h1⟩
  have H1 := hide h1
  clear h1 h H
  go_wp2_with fail
  go_ret
  exact ⟨v, rfl, unhide H1⟩

set_option maxRecDepth 100000 in
set_option maxHeartbeats 2000000 in
theorem step_took (o : Oq) (wd : Nat) (w : World) (Q : Bool → World → Prop) (hk : o.kind = 8) (h : Calls Tryz.prog 16 #[.pointer (some ⟨wd, 0, none⟩), .bool false] (w.alloc (.cells o.cells 45)) (Hands Q)) :
    Calls Tryz.prog 7 #[.pointer (some ⟨wd, 0, none⟩), .agg o.cells] w (Hands Q) := by
  have H := hide h
  clear h
  unfold Oq.cells
  rw [hk]
  go_enter Tryz.func7, Tryz.ntmps7
  go_wp2_with (go_at_call 16; refine Stop.out ?_)
  refine ⟨?_⟩
  have h := unhide H
  unfold Oq.cells at h
  rw [hk] at h
  refine Calls.mono h ?_
  rintro e w1 ⟨v, rfl, h1⟩
  have H1 := hide h1
  clear h1 h H
  go_wp2_with fail
  go_ret
  exact ⟨v, rfl, unhide H1⟩

set_option maxRecDepth 100000 in
set_option maxHeartbeats 2000000 in
theorem ends_any (wd : Nat) (w : World) (Q1 Q2 : World → Prop) (h1 : Calls Tryz.prog 16 #[.pointer (some ⟨wd, 0, none⟩), .bool true] w fun e w' => e = .returned (.bool true) ∧ Q1 w')
    (h2 : ∀ w1, Q1 w1 → Calls Tryz.prog 16 #[.pointer (some ⟨wd, 0, none⟩), .bool false] w1 fun e w' => e = .returned (.bool true) ∧ Q2 w') :
    Calls Tryz.prog 9 #[.pointer (some ⟨wd, 0, none⟩)] w fun e w' => e = .returned (.bool true) ∧ Q2 w' := by
  have H1 := hide h1
  have H2 := hide h2
  clear h1 h2
  go_enter Tryz.func9, Tryz.ntmps9
  go_wp2_with fail
  go_at_call 16
  refine (unhide H1).mono ?_
  rintro e w1 ⟨rfl, q1⟩
  have HQ := hide (unhide H2 w1 q1)
  clear q1 H1 H2
  go_wp2_with fail
  go_at_call 16
  refine (unhide HQ).mono ?_
  rintro e w2 ⟨rfl, q2⟩
  have HR := hide q2
  clear q2 HQ
  go_wp2_with fail
  go_ret
  exact ⟨rfl, unhide HR⟩

def BegunPost (w : World) (gB c k r : Nat) (e : Ending) (w' : World) : Prop :=
  ∃ wd gp gs ge gl gr gy gf gm, e = .returned (.tuple #[.pointer (some ⟨wd, 0, none⟩), .bool true]) ∧ w.heap.size ≤ wd ∧ w.heap.size ≤ gs ∧ w.heap.size ≤ ge ∧ w.heap.size ≤ gl ∧ w.heap.size ≤ gy ∧ w.heap.size ≤ gf ∧ w.heap.size ≤ gm ∧ ge ≠ gf ∧ gl ≠ gm ∧
    WAt w.heap.size w' wd gp gB (.pointer (some ⟨gr, 0, none⟩)) (.slice none 0 0) [] [] ∧ SAt w.heap.size w' gp gs ge gl (freshN c k r) (docFresh c k r) ∧ RAt w.heap.size w' gr gy gf gm (freshR c) (docFresh c k r) ∧ Below w.heap.size w w'

set_option maxRecDepth 100000 in
set_option maxHeartbeats 4000000 in
theorem begun_yes (c k r gB : Nat) (w : World) (h1 : 1 ≤ c) (h2 : c ≤ 8) (h3 : 1 ≤ k) (h4 : k ≤ 4) (h5 : 2 ≤ r) (h6 : r ≤ 100) :
    Calls Tryz.prog 5 #[.agg #[.int .i64 c, .int .i64 k, .int .i64 r], .pointer (some ⟨gB, 0, none⟩)] w fun e w' => BegunPost w gB c k r e w' := by
  have CF0 := hide (heap_alloc_new w (.cells #[.int .i64 (c : Int), .int .i64 (k : Int), .int .i64 (r : Int)] 23))
  go_enter Tryz.func5, Tryz.ntmps5
  go_wp2_with fail
  go_at_call 10
  refine (gnewS_yes c k r _ h1 h2 h3 h4 h5 h6).mono ?_
  rintro e w1 ⟨gs, rfl, a1, a2, a3⟩
  have CF1 := block_keep (unhide CF0) a3
  have c0 : w1.cell? ⟨w.heap.size, 0, none⟩ = some (.int .i64 (c : Int)) := block_cell CF1 0
  have c1 : w1.cell? ⟨w.heap.size, 1, none⟩ = some (.int .i64 (k : Int)) := block_cell CF1 1
  have c2 : w1.cell? ⟨w.heap.size, 2, none⟩ = some (.int .i64 (r : Int)) := block_cell CF1 2
  have HCF1 := hide CF1
  have HS1 := hide a2
  have HB1 := hide (grew_call ((Below.refl _ _).alloc (Nat.le_refl _) _) a3 : Below w.heap.size w w1)
  have hgs : w.heap.size ≤ gs := by have := a1; simp at this; omega
  clear a1 a2 a3 CF1
  go_wp2_with fail
  go_at_call 11
  refine (gnewR_yes c k r _ h1 h2 h3 h4 h5 h6).mono ?_
  rintro e w2 ⟨gy, rfl, a1, a2, a3⟩
  have CF2 := block_keep (unhide HCF1) a3
  have c0 : w2.cell? ⟨w.heap.size, 0, none⟩ = some (.int .i64 (c : Int)) := block_cell CF2 0
  have c1 : w2.cell? ⟨w.heap.size, 1, none⟩ = some (.int .i64 (k : Int)) := block_cell CF2 1
  have c2 : w2.cell? ⟨w.heap.size, 2, none⟩ = some (.int .i64 (r : Int)) := block_cell CF2 2
  have HCF2 := hide CF2
  have hz1 := (unhide HB1).size
  have hgy : w.heap.size ≤ gy := by omega
  have HS2 := hide (block_keep (unhide HS1) a3 : SndAt w2 gs (freshN c k r))
  have HY2 := hide a2
  have HB2 := hide (grew_call (unhide HB1) a3)
  clear a1 a2 a3 CF2 HS1 HB1 HCF1
  go_wp2_with fail
  go_at_call 12
  refine (dnew_yes c k r _ h1 h2 h3 h4 h5 h6).mono ?_
  rintro e w3 ⟨ge, gl, rfl, b1, b2, b3, b4, b5⟩
  have CF3 := block_keep (unhide HCF2) b5
  have c0 : w3.cell? ⟨w.heap.size, 0, none⟩ = some (.int .i64 (c : Int)) := block_cell CF3 0
  have c1 : w3.cell? ⟨w.heap.size, 1, none⟩ = some (.int .i64 (k : Int)) := block_cell CF3 1
  have c2 : w3.cell? ⟨w.heap.size, 2, none⟩ = some (.int .i64 (r : Int)) := block_cell CF3 2
  have hz2 := (unhide HB2).size
  have hge : w.heap.size ≤ ge := by omega
  have hgl : w.heap.size ≤ gl := by omega
  have HS3 := hide (block_keep (unhide HS2) b5 : SndAt w3 gs (freshN c k r))
  have HY3 := hide (block_keep (unhide HY2) b5 : RcvAt w3 gy (freshR c))
  have HD3 := hide b4
  have HB3 := hide (grew_call (unhide HB2) b5)
  have lge := block_lt b4.head
  have lgl := block_lt b4.rows
  clear b1 b2 b3 b4 b5 CF3 HS2 HY2 HB2 HCF2
  go_wp2_with fail
  go_at_call 12
  refine (dnew_yes c k r _ h1 h2 h3 h4 h5 h6).mono ?_
  rintro e w4 ⟨gf, gm, rfl, b1, b2, b3, b4, b5⟩
  have hz3 := (unhide HB3).size
  have hgf : w.heap.size ≤ gf := by omega
  have hgm : w.heap.size ≤ gm := by omega
  have nef : ge ≠ gf := by omega
  have nlm : gl ≠ gm := by omega
  have HS4 := hide (block_keep (unhide HS3) b5 : SndAt w4 gs (freshN c k r))
  have HY4 := hide (block_keep (unhide HY3) b5 : RcvAt w4 gy (freshR c))
  have HD4 := hide ((unhide HD3).keep b5)
  have HF4 := hide b4
  have HB4 := hide (grew_call (unhide HB3) b5)
  clear b1 b2 b3 b4 b5 c0 c1 c2 HS3 HY3 HB3 HD3 lge lgl
  go_wp2_with (go_at_call 13; refine (bits.num_any _ _).mono ?_; rintro e w5 ⟨rfl, h5'⟩; have h5' := h5'.symm; subst h5')
  go_ret2
  have hz4 := (unhide HB4).size
  have e1 : (w4.alloc (.cells #[.pointer (some ⟨gs, 0, none⟩), .pointer none, .pointer (some ⟨ge, 0, none⟩)] 61)).heap.size = w4.heap.size + 1 := by simp
  have x1 : Below w4.heap.size w4 (((w4.alloc (.cells #[.pointer (some ⟨gs, 0, none⟩), .pointer none, .pointer (some ⟨ge, 0, none⟩)] 61)).alloc (.cells #[.pointer none, .pointer (some ⟨gy, 0, none⟩), .pointer (some ⟨gf, 0, none⟩)] 61)).alloc (.cells #[.pointer (some ⟨w4.heap.size, 0, none⟩), .pointer (some ⟨w4.heap.size + 1, 0, none⟩), .slice none 0 0, .string (bs []), .pointer (some ⟨gB, 0, none⟩)] 63)) := (((Below.refl _ _).alloc (Nat.le_refl _) _).alloc (by simp) _).alloc (by simp; omega) _
  exact ⟨w4.heap.size + 1 + 1, w4.heap.size, gs, ge, gl, w4.heap.size + 1, gy, gf, gm, rfl, by omega, hgs, hge, hgl, hgy, hgf, hgm, nef, nlm, ⟨third_alloc w4 _ _ _, World.ownsRow_nil _ _ _ _, by omega⟩, ⟨block_alloc (block_alloc (heap_alloc_new w4 _) _) _, block_keep (unhide HS4) x1, (unhide HD4).keep x1, docFresh_sts _ _ _ _ _, hgs, hge, hgl⟩, ⟨second_alloc w4 _ _ _, block_keep (unhide HY4) x1, (unhide HF4).keep x1, docFresh_sts _ _ _ _ _, hgy, hgf, hgm⟩, grew_call (unhide HB4) x1⟩

set_option maxRecDepth 100000 in
set_option maxHeartbeats 4000000 in
theorem begun_no (c k r : Int) (gB : Nat) (w : World) (h : confB c k r = false) :
    Calls Tryz.prog 5 #[.agg #[.int .i64 c, .int .i64 k, .int .i64 r], .pointer (some ⟨gB, 0, none⟩)] w fun e w' => e = .returned (.tuple #[.pointer none, .bool true]) ∧ Below w.heap.size w w' := by
  have CF0 := hide (heap_alloc_new w (.cells #[.int .i64 c, .int .i64 k, .int .i64 r] 23))
  have HC := hide h
  clear h
  go_enter Tryz.func5, Tryz.ntmps5
  go_wp2_with fail
  go_at_call 10
  refine (gnewS_no c k r _ (unhide HC)).mono ?_
  rintro e w1 ⟨rfl, a3⟩
  have CF1 := block_keep (unhide CF0) a3
  have c0 : w1.cell? ⟨w.heap.size, 0, none⟩ = some (.int .i64 c) := block_cell CF1 0
  have c1 : w1.cell? ⟨w.heap.size, 1, none⟩ = some (.int .i64 k) := block_cell CF1 1
  have c2 : w1.cell? ⟨w.heap.size, 2, none⟩ = some (.int .i64 r) := block_cell CF1 2
  have HCF1 := hide CF1
  have HB1 := hide (grew_call ((Below.refl _ _).alloc (Nat.le_refl _) _) a3 : Below w.heap.size w w1)
  clear a3 CF1
  go_wp2_with fail
  go_at_call 11
  refine (gnewR_no c k r _ (unhide HC)).mono ?_
  rintro e w2 ⟨rfl, a3⟩
  have CF2 := block_keep (unhide HCF1) a3
  have c0 : w2.cell? ⟨w.heap.size, 0, none⟩ = some (.int .i64 c) := block_cell CF2 0
  have c1 : w2.cell? ⟨w.heap.size, 1, none⟩ = some (.int .i64 k) := block_cell CF2 1
  have c2 : w2.cell? ⟨w.heap.size, 2, none⟩ = some (.int .i64 r) := block_cell CF2 2
  have HCF2 := hide CF2
  have HB2 := hide (grew_call (unhide HB1) a3)
  clear a3 CF2 HB1 HCF1
  go_wp2_with fail
  go_at_call 12
  refine (dnew_no c k r _ (unhide HC)).mono ?_
  rintro e w3 ⟨rfl, b5⟩
  have CF3 := block_keep (unhide HCF2) b5
  have c0 : w3.cell? ⟨w.heap.size, 0, none⟩ = some (.int .i64 c) := block_cell CF3 0
  have c1 : w3.cell? ⟨w.heap.size, 1, none⟩ = some (.int .i64 k) := block_cell CF3 1
  have c2 : w3.cell? ⟨w.heap.size, 2, none⟩ = some (.int .i64 r) := block_cell CF3 2
  have HB3 := hide (grew_call (unhide HB2) b5)
  clear b5 CF3 HB2 HCF2
  go_wp2_with fail
  go_at_call 12
  refine (dnew_no c k r _ (unhide HC)).mono ?_
  rintro e w4 ⟨rfl, b5⟩
  have HB4 := hide (grew_call (unhide HB3) b5)
  clear b5 c0 c1 c2 HB3
  go_wp2_with (go_at_call 13; refine (bits.num_any _ _).mono ?_; rintro e w5 ⟨rfl, h5'⟩; have h5' := h5'.symm; subst h5')
  go_ret2
  exact ⟨rfl, unhide HB4⟩

end Go.Proofs.YtgpojbgjfibblabGreat.texts

namespace Go.Proofs.YtgpojbgjfibblabGreat.texts
open Go.RowKit
set_option linter.unusedVariables false

/-- where a world's blocks lie -/
structure Ids where
  wd : Nat
  gp : Nat
  gs : Nat
  ge : Nat
  gl : Nat
  gr : Nat
  gy : Nat
  gf : Nat
  gm : Nat
  vs : Value
def Ids.foot (x : Ids) (k : Nat) : Prop := k = x.wd ∨ k = x.gs ∨ k = x.ge ∨ k = x.gl ∨ k = x.gy ∨ k = x.gf ∨ k = x.gm ∨ x.vs.ownBlock = some k
structure Parts (B : Nat) (w : World) (gB t : Nat) (x : Ids) (fs : List (List UInt8)) (bk : List UInt8) (m : Snd) (d : Doc) (k : Nat) (mr : Rcv) (dr : Doc) : Prop where
  wat : WAt B w x.wd x.gp gB (.pointer (some ⟨x.gr, 0, none⟩)) x.vs fs bk
  sat : SAt B w x.gp x.gs x.ge x.gl m d
  ends : Ends m d k
  rat : RAt B w x.gr x.gy x.gf x.gm mr dr
  endr : EndsR mr dr
  sent : d.sent ≤ t
  few : fs.length ≤ t
  short : ∀ f ∈ fs, f.length ≤ 1000
  back : bk.length ≤ 1000
  nef : x.ge ≠ x.gf
  nlm : x.gl ≠ x.gm
def Half2 (B : Nat) (w : World) (gB t : Nat) (x : Ids) : Prop := ∃ fs bk m d k mr dr, Parts B w gB t x fs bk m d k mr dr
theorem Parts.ty {B : Nat} {w : World} {gB t : Nat} {x : Ids} {fs : List (List UInt8)} {bk : List UInt8} {m : Snd} {d : Doc} {k : Nat} {mr : Rcv} {dr : Doc} (h : Parts B w gB t x fs bk m d k mr dr) {q : Nat} (hq : x.foot q) :
    B ≤ q ∧ ∃ cs t fr, w.heap[q]? = some (.cells cs t fr) ∧ t ∈ [63, 82, 94, 126, 91, 9] := by
  rcases hq with rfl | rfl | rfl | rfl | rfl | rfl | rfl | e
  · exact ⟨h.wat.lw, _, _, _, h.wat.blk, by simp⟩
  · exact ⟨h.sat.ls, _, _, _, h.sat.snd, by simp⟩
  · exact ⟨h.sat.le, _, _, _, h.sat.doc.head, by simp⟩
  · exact ⟨h.sat.ll, _, _, _, h.sat.doc.rows, by simp⟩
  · exact ⟨h.rat.ls, _, _, _, h.rat.rcv, by simp⟩
  · exact ⟨h.rat.le, _, _, _, h.rat.doc.head, by simp⟩
  · exact ⟨h.rat.ll, _, _, _, h.rat.doc.rows, by simp⟩
  · obtain ⟨cur, hc⟩ := own_ty h.wat.sent e
    exact ⟨(h.wat.sent.lt q e).1, _, _, _, hc, by simp⟩
theorem Half2.lt {B : Nat} {w : World} {gB t : Nat} {x : Ids} (h : Half2 B w gB t x) {q : Nat} (hq : x.foot q) : q < w.heap.size := by
  obtain ⟨fs, bk, m, d, k, mr, dr, p⟩ := h
  obtain ⟨_, cs, t, fr, hh, _⟩ := p.ty hq
  exact block_lt hh
theorem Half2.onlyT {ts : List TypeId} {B : Nat} {w w' : World} {gB t t' : Nat} {x : Ids} (h : Half2 B w gB t x) (o : OnlyT ts w w') (ht : t ≤ t') (h0 : 63 ∉ ts) (h1 : 61 ∉ ts) (h2 : 82 ∉ ts) (h3 : 94 ∉ ts) (h4 : 126 ∉ ts) (h5 : 128 ∉ ts) (h6 : 91 ∉ ts) (h7 : 9 ∉ ts) : Half2 B w' gB t' x := by
  obtain ⟨fs, bk, m, d, k, mr, dr, p⟩ := h
  have a := p.sent
  have b := p.few
  exact ⟨fs, bk, m, d, k, mr, dr, p.wat.onlyT o h0 h7, p.sat.onlyT o h1 h2 h3 h4 h5, p.ends, p.rat.onlyT o h1 h6 h3 h4 h5, p.endr, by omega, by omega, p.short, p.back, p.nef, p.nlm⟩
theorem Half2.grew {B : Nat} {w w' : World} {gB t t' : Nat} {x : Ids} (h : Half2 B w gB t x) (hb : Below w.heap.size w w') (ht : t ≤ t') : Half2 B w' gB t' x :=
  h.onlyT (OnlyT.of_below (ts := []) hb) ht (by simp) (by simp) (by simp) (by simp) (by simp) (by simp) (by simp) (by simp)
theorem Half2.rest {S : Nat → Prop} {B : Nat} {w w' : World} {gB t t' : Nat} {x : Ids} (h : Half2 B w gB t x) (o : Only S w w') (ht : t ≤ t') (hS : ∀ k, S k → ∃ cs t fr, w.heap[k]? = some (.cells cs t fr) ∧ t ≠ 61 ∧ t ≠ 128) (hd : ∀ k, S k → ¬ x.foot k) : Half2 B w' gB t' x := by
  obtain ⟨fs, bk, m, d, k, mr, dr, p⟩ := h
  have a := p.sent
  have b := p.few
  refine ⟨fs, bk, m, d, k, mr, dr, p.wat.rest o (fun e => hd _ e (Or.inl rfl)) (fun g hg e => hd _ e (Or.inr (Or.inr (Or.inr (Or.inr (Or.inr (Or.inr (Or.inr hg)))))))), p.sat.rest o hS (fun e => hd _ e (Or.inr (Or.inl rfl))) (fun e => hd _ e (Or.inr (Or.inr (Or.inl rfl)))) (fun e => hd _ e (Or.inr (Or.inr (Or.inr (Or.inl rfl))))), p.ends,
    p.rat.rest o hS (fun e => hd _ e (Or.inr (Or.inr (Or.inr (Or.inr (Or.inl rfl)))))) (fun e => hd _ e (Or.inr (Or.inr (Or.inr (Or.inr (Or.inr (Or.inl rfl))))))) (fun e => hd _ e (Or.inr (Or.inr (Or.inr (Or.inr (Or.inr (Or.inr (Or.inl rfl)))))))), p.endr, by omega, by omega, p.short, p.back, p.nef, p.nlm⟩
theorem not_two {l : List TypeId} {t a b : TypeId} (h : t ∈ l) (ha : a ∉ l) (hb : b ∉ l) : t ≠ a ∧ t ≠ b := ⟨fun e => ha (e ▸ h), fun e => hb (e ▸ h)⟩
/-- a send or a hear -/
theorem Parts.sent_ {B : Nat} {w w' : World} {gB t : Nat} {x : Ids} {fs : List (List UInt8)} {bk : List UInt8} {m : Snd} {d : Doc} {k : Nat} {mr : Rcv} {dr : Doc} (h : Parts B w gB t x fs bk m d k mr dr)
    (hp : SentPost B w x.wd x.gp x.gs x.ge x.gl gB (.pointer (some ⟨x.gr, 0, none⟩)) x.vs bk fs d w') : ∃ vs', Half2 B w' gB (t + 1) { x with vs := vs' } ∧ (vs'.ownBlock = x.vs.ownBlock ∨ ∃ g, vs'.ownBlock = some g ∧ w.heap.size ≤ g) ∧ Only x.foot w w' := by
  obtain ⟨m', d', k', vs', fs', E', e1, e2, e3, S', W', e4, o⟩ := hp
  have a := h.sent
  have b := h.few
  have ty : ∀ q, sendS x.wd x.gs x.ge x.gl x.vs q → x.foot q := by
    rintro q (e | e | e | e | e)
    · exact Or.inl e
    · exact Or.inr (Or.inl e)
    · exact Or.inr (Or.inr (Or.inl e))
    · exact Or.inr (Or.inr (Or.inr (Or.inl e)))
    · exact Or.inr (Or.inr (Or.inr (Or.inr (Or.inr (Or.inr (Or.inr e))))))
  have nt : ∀ q, sendS x.wd x.gs x.ge x.gl x.vs q → ∃ cs t fr, w.heap[q]? = some (.cells cs t fr) ∧ t ≠ 61 ∧ t ≠ 128 := fun q e => by
    obtain ⟨_, cs, t, fr, h1, h2⟩ := h.ty (ty q e)
    exact ⟨cs, t, fr, h1, not_two h2 (by decide) (by decide)⟩
  refine ⟨vs', ⟨fs', bk, m', d', k', mr, dr, W', S', E', ?_, h.endr, by omega, by omega, e3 h.short, h.back, h.nef, h.nlm⟩, e4, o.mono ty⟩
  refine h.rat.rest o nt ?_ ?_ ?_
  · rintro (e | e | e | e | e)
    · exact apart_ty h.rat.rcv h.wat.blk (by decide) e
    · exact apart_ty h.rat.rcv h.sat.snd (by decide) e
    · exact apart_ty h.rat.rcv h.sat.doc.head (by decide) e
    · exact apart_ty h.rat.rcv h.sat.doc.rows (by decide) e
    · obtain ⟨cur, hc⟩ := own_ty h.wat.sent e
      exact apart_ty h.rat.rcv hc (by decide) rfl
  · rintro (e | e | e | e | e)
    · exact apart_ty h.rat.doc.head h.wat.blk (by decide) e
    · exact apart_ty h.rat.doc.head h.sat.snd (by decide) e
    · exact h.nef e.symm
    · exact apart_ty h.rat.doc.head h.sat.doc.rows (by decide) e
    · obtain ⟨cur, hc⟩ := own_ty h.wat.sent e
      exact apart_ty h.rat.doc.head hc (by decide) rfl
  · rintro (e | e | e | e | e)
    · exact apart_ty h.rat.doc.rows h.wat.blk (by decide) e
    · exact apart_ty h.rat.doc.rows h.sat.snd (by decide) e
    · exact apart_ty h.rat.doc.rows h.sat.doc.head (by decide) e
    · exact h.nlm e.symm
    · obtain ⟨cur, hc⟩ := own_ty h.wat.sent e
      exact apart_ty h.rat.doc.rows hc (by decide) rfl
/-- a take -/
theorem Parts.took_ {B : Nat} {w w' : World} {gB t : Nat} {x : Ids} {fs : List (List UInt8)} {bk : List UInt8} {m : Snd} {d : Doc} {k : Nat} {mr : Rcv} {dr : Doc} (h : Parts B w gB t x fs bk m d k mr dr)
    (hp : TookPost B w x.wd x.gp gB x.gr x.gy x.gf x.gm x.vs fs bk w') : Half2 B w' gB (t + 1) x ∧ Only x.foot w w' := by
  obtain ⟨m', d', bk', E', R', W', e1, o⟩ := hp
  have a := h.sent
  have b := h.few
  have ty : ∀ q, takeS x.wd x.gy x.gm q → x.foot q := by
    rintro q (e | e | e)
    · exact Or.inl e
    · exact Or.inr (Or.inr (Or.inr (Or.inr (Or.inl e))))
    · exact Or.inr (Or.inr (Or.inr (Or.inr (Or.inr (Or.inr (Or.inl e))))))
  have nt : ∀ q, takeS x.wd x.gy x.gm q → ∃ cs t fr, w.heap[q]? = some (.cells cs t fr) ∧ t ≠ 61 ∧ t ≠ 128 := fun q e => by
    obtain ⟨_, cs, t, fr, h1, h2⟩ := h.ty (ty q e)
    exact ⟨cs, t, fr, h1, not_two h2 (by decide) (by decide)⟩
  refine ⟨⟨fs, bk', m, d, k, m', d', W', ?_, h.ends, R', E', by omega, by omega, h.short, e1 h.back, h.nef, h.nlm⟩, o.mono ty⟩
  refine h.sat.rest o nt ?_ ?_ ?_
  · rintro (e | e | e)
    · exact apart_ty h.sat.snd h.wat.blk (by decide) e
    · exact apart_ty h.sat.snd h.rat.rcv (by decide) e
    · exact apart_ty h.sat.snd h.rat.doc.rows (by decide) e
  · rintro (e | e | e)
    · exact apart_ty h.sat.doc.head h.wat.blk (by decide) e
    · exact apart_ty h.sat.doc.head h.rat.rcv (by decide) e
    · exact apart_ty h.sat.doc.head h.rat.doc.rows (by decide) e
  · rintro (e | e | e)
    · exact apart_ty h.sat.doc.rows h.wat.blk (by decide) e
    · exact apart_ty h.sat.doc.rows h.rat.rcv (by decide) e
    · exact h.nlm e

/-- both pairs, and the book -/
structure Both2 (B : Nat) (w : World) (gB i : Nat) (x1 x2 : Ids) (vF vM : Value) (next : Int) (K : List (Value × Int)) (wr : World) : Prop where
  one : Half2 B wr gB i x1
  two : Half2 B wr gB i x2
  apart : ∀ k, x1.foot k → ¬ x2.foot k
  book : BkAt B wr gB vF vM (.slice none 0 0) (.slice none 0 0) next K
  sh : FShorts K
  kl : K.length ≤ 8 * i
  nl : -(2 * (i : Int)) ≤ next
  nu : next ≤ 0
  bel : Below B w wr
def TakesP (B : Nat) (w : World) (gB i wd1 wd2 : Nat) (wr : World) : Prop := ∃ x1 x2 vF vM next K, x1.wd = wd1 ∧ x2.wd = wd2 ∧ Both2 B w gB i x1 x2 vF vM next K wr
theorem Both2.low {B : Nat} {w wr : World} {gB i : Nat} {x1 x2 : Ids} {vF vM : Value} {next : Int} {K : List (Value × Int)} (h : Both2 B w gB i x1 x2 vF vM next K wr) : B ≤ wr.heap.size := by
  have := h.book.low
  have := block_lt h.book.blk
  omega
theorem TakesP.grew {B : Nat} {w wr w' : World} {gB i wd1 wd2 : Nat} (h : TakesP B w gB i wd1 wd2 wr) (hb : Below wr.heap.size wr w') {i' : Nat} (hi : i ≤ i') : TakesP B w gB i' wd1 wd2 w' := by
  obtain ⟨x1, x2, vF, vM, next, K, e1, e2, p⟩ := h
  have hl := p.low
  have kl := p.kl
  have nl := p.nl
  exact ⟨x1, x2, vF, vM, next, K, e1, e2, p.one.grew hb hi, p.two.grew hb hi, p.apart, p.book.grew hb, p.sh, by omega, by omega, p.nu, p.bel.trans (hb.mono hl)⟩
theorem TakesP.swap {B : Nat} {w wr : World} {gB i wd1 wd2 : Nat} (h : TakesP B w gB i wd1 wd2 wr) : TakesP B w gB i wd2 wd1 wr := by
  obtain ⟨x1, x2, vF, vM, next, K, e1, e2, p⟩ := h
  exact ⟨x2, x1, vF, vM, next, K, e2, e1, p.two, p.one, fun k a b => p.apart k b a, p.book, p.sh, p.kl, p.nl, p.nu, p.bel⟩
theorem TakesP.below {B : Nat} {w wr : World} {gB i wd1 wd2 : Nat} (h : TakesP B w gB i wd1 wd2 wr) : Below B w wr := by
  obtain ⟨x1, x2, vF, vM, next, K, e1, e2, p⟩ := h
  exact p.bel
/-- the first has gone a step on -/
theorem Both2.step {B : Nat} {w wr w' : World} {gB i : Nat} {x1 x2 y1 : Ids} {vF vM : Value} {next : Int} {K : List (Value × Int)} (h : Both2 B w gB i x1 x2 vF vM next K wr) (h1 : Half2 B w' gB (i + 1) y1) (o : Only x1.foot wr w') (hy : ∀ k, y1.foot k → x1.foot k ∨ wr.heap.size ≤ k) : Both2 B w gB (i + 1) y1 x2 vF vM next K w' := by
  obtain ⟨fs, bk, m, d, k, mr, dr, p⟩ := h.one
  have ty := fun q (e : x1.foot q) => (p.ty e).2
  have oT := OnlyT.of_only o ty
  have kl := h.kl
  have nl := h.nl
  refine ⟨h1, h.two.rest o (by omega) (fun q e => ?_) (fun q e => h.apart q e), fun q a b => ?_, h.book.only oT (by decide) (by decide) (by decide) (by decide), h.sh, by omega, by omega, h.nu, h.bel.trans (only_low o h.low (fun q e => (p.ty e).1))⟩
  · obtain ⟨cs, t, fr, a, b⟩ := ty q e
    exact ⟨cs, t, fr, a, not_two b (by decide) (by decide)⟩
  · rcases hy q a with c | c
    · exact h.apart q c b
    · have := h.two.lt b
      omega
/-- what is told goes into the book -/
theorem Both2.told {B : Nat} {w wr w' : World} {gB i : Nat} {x1 x2 : Ids} {vF vM : Value} {next : Int} {K : List (Value × Int)} (h : Both2 B w gB i x1 x2 vF vM next K wr) (hp : ToldPost B wr gB (.slice none 0 0) (.slice none 0 0) next K w') : ∃ vF' vM' K', Both2 B w gB (i + 1) x1 x2 vF' vM' (next - 2) K' w' := by
  obtain ⟨vF', vM', K', bk', kl', fs', b', o'⟩ := hp
  have kl := h.kl
  have nl := h.nl
  have nu := h.nu
  exact ⟨vF', vM', K', h.one.onlyT o' (by omega) (by decide) (by decide) (by decide) (by decide) (by decide) (by decide) (by decide) (by decide), h.two.onlyT o' (by omega) (by decide) (by decide) (by decide) (by decide) (by decide) (by decide) (by decide) (by decide), h.apart, bk', fs', by omega, by omega, by omega, h.bel.trans b'⟩

end Go.Proofs.YtgpojbgjfibblabGreat.texts

namespace Go.Proofs.YtgpojbgjfibblabGreat.texts.tx
open Go.RowKit
set_option linter.unusedVariables false
attribute [local go_sem ↓] Go.wp_at_zero Go.wp_at_succ

theorem joinR_len (ls : List (List UInt8)) : (joinR ls).length ≤ 2416 := by
  unfold joinR
  by_cases h : joinE ls = 0
  · rw [if_pos h]
    have h8 : ls.length ≤ 8 := by
      unfold joinE at h
      by_cases e : 8 < ls.length
      · rw [if_pos e] at h; simp at h
      · omega
    have hs : ∀ f ∈ ls, f.length ≤ 300 := by
      unfold joinE at h
      rw [if_neg (by omega)] at h
      by_cases e : longOne ls = true
      · rw [if_pos e] at h; simp at h
      · intro f hf
        by_cases e2 : f.length ≤ 300
        · exact e2
        · exfalso
          apply e
          unfold longOne
          rw [List.any_eq_true]
          exact ⟨f, hf, by simp; omega⟩
    have := joinL_length ls hs
    omega
  · rw [if_neg h]; simp

/-- the last k of a list -/
theorem texts_last {w : World} {B g cap : Nat} {fs : List (List UInt8)} (h : w.ownsRow B 9 1 (.slice (some ⟨g, 0, none⟩) fs.length cap) fs.length (strs fs)) (d : Nat) (hd : d ≤ fs.length) (c : Nat) :
    TextsAt w (.slice (some ⟨g, d, none⟩) (fs.drop d).length c) (fs.drop d) (some ⟨g, d, none⟩) g d c := by
  refine ⟨rfl, fun _ => rfl, fun i hi => ?_⟩
  simp only [List.length_drop] at hi
  rw [h.cellAt (d + i) (by omega)]
  simp only [strs, List.getElem?_map, List.getElem?_drop]
  rw [List.getElem?_eq_getElem (by omega)]
  simp

theorem texts_none (w : World) : TextsAt w (.slice none 0 0) [] none 0 0 0 := ⟨rfl, fun h => by simp at h, fun i hi => by simp at hi⟩

/-- what bundle does -/
def BundlePost (p : P0) (B : Nat) (w : World) (gB : Nat) (next : Int) (KT : List (Value × List UInt8)) (w' : World) : Prop :=
  ∃ vT' vN' KT', BookAt p B w' gB vT' vN' (next - 1) KT' ∧ KT'.length = KT.length + 4 ∧ (Shorts KT → Shorts KT') ∧ Below B w w'

/-- what is newly made lies apart from the book and its lists -/
theorem new_apart {p : P0} {B : Nat} {w w2 w3 : World} {gB : Nat} {vT vN v : Value} {next : Int} {K : List (Value × List UInt8)} {e : TypeId} {n : Nat} {xs : List Value} (h : BookAt p B w gB vT vN next K) (hz : w.heap.size ≤ w2.heap.size) (ho : w3.ownsRow w2.heap.size e 1 v n xs) :
    ApartOf p v gB vT vN ∧ (∀ g, v.ownBlock = some g → p.w0.heap.size ≤ g) ∧ ∀ e ∈ K, ∀ g, v.ownBlock = some g → e.1.ownBlock ≠ some g := by
  have hp := h.past.hz
  refine ⟨fun g hg => ?_, fun g hg => ?_, fun e he g hg h2 => ?_⟩
  · have h1 := (own_lt ho hg).1
    refine ⟨fun e => ?_, fun e => ?_, fun e => ?_, p.good g (by omega)⟩
    · have := block_lt h.blk; omega
    · have := (own_lt h.oT e).2; omega
    · have := (own_lt h.oN e).2; omega
  · have h1 := (own_lt ho hg).1
    omega
  · have h1 := (own_lt ho hg).1
    have := (h.kept e he).1.lt h2
    omega

theorem own_low2 {w : World} {b1 b2 : Nat} {e : TypeId} {v : Value} {n : Nat} {xs : List Value} (h : w.ownsRow b1 e 1 v n xs) (hb : b2 ≤ b1) : w.ownsRow b2 e 1 v n xs := by
  refine ⟨h.1, ?_⟩
  rcases h.2 with h2 | ⟨g, cap, cur, hl, hg, r⟩
  · exact Or.inl h2
  · exact Or.inr ⟨g, cap, cur, hl, by omega, r⟩

set_option maxRecDepth 100000 in
set_option maxHeartbeats 4000000 in
theorem bundle_any (p : P0) (B : Nat) (wd gp gB : Nat) (rv vs : Value) (fs : List (List UInt8)) (bk : List UInt8) (c : Int) (vT vN : Value) (next : Int) (KT : List (Value × List UInt8)) (w : World) (hW : WAt B w wd gp gB rv vs fs bk) (hK : BookAt p B w gB vT vN next KT) (h0 : -9223372036854775808 ≤ c) (h1 : c ≤ 9223372036854775807) (hfl : fs.length ≤ 1048576) (hkl : KT.length ≤ 536870912) (hn0 : -536870912 ≤ next) (hn1 : next ≤ 536870912) :
    Calls Tryz.prog 19 #[.pointer (some ⟨wd, 0, none⟩), .int .i64 c] w fun e w' => e = .returned (.bool true) ∧ BundlePost p B w gB next KT w' := by
  obtain ⟨ao, cap, rfl⟩ := own_sl hW.sent
  have HW := hide hW
  have HK := hide hK
  have hlow := hK.low
  have hgB := block_lt hK.blk
  have c2 : w.cell? ⟨wd, 2, none⟩ = some (.slice ao fs.length cap) := block_cell hW.blk 2
  have c4 : w.cell? ⟨wd, 4, none⟩ = some (.pointer (some ⟨gB, 0, none⟩)) := block_cell hW.blk 4
  have d2 : w.drew.cell? ⟨wd, 2, none⟩ = some (.slice ao fs.length cap) := c2
  obtain ⟨k, hk⟩ : ∃ k, k = lpickN c (fs.length + 1) := ⟨_, rfl⟩
  have hkl2 : k ≤ fs.length := by have := lpickN_lt c (n := fs.length + 1) (by omega); omega
  obtain ⟨d, hd⟩ : ∃ d, d = fs.length - k := ⟨_, rfl⟩
  have HP := hide (lpick_any c (fs.length + 1) w h0 h1 (by omega) (by omega))
  rw [← hk] at HP
  have hkd : fs.length = k + d := by omega
  have hcap : fs.length ≤ cap := by
    rcases hW.sent.2 with ⟨_, h3⟩ | ⟨g, cap', cur, h3, _, _, h4, _⟩
    · omega
    · simp at h3; omega
  obtain ⟨ls, hls⟩ : ∃ ls, ls = fs.drop d := ⟨_, rfl⟩
  have hll : ls.length = k := by rw [hls, List.length_drop]; omega
  have HT : Hid (∃ a2 b2 o2 c2, TextsAt w (.slice (ao.map (·.add d)) k (cap - d)) ls a2 b2 o2 c2) := by
    rcases hW.sent.2 with ⟨h3, h4⟩ | ⟨g, cap', cur, h3, _⟩
    · simp at h3
      have e0 : ls = [] := List.length_eq_zero_iff.1 (by omega)
      have k0 : k = 0 := by omega
      rw [h3.1, e0, k0, h3.2.2, Nat.zero_sub]
      exact ⟨_, _, _, _, texts_none w⟩
    · simp at h3
      have := texts_last (g := g) (cap := cap) (by have := hW.sent; rw [h3.1] at this; exact this) d (by omega) (cap - d)
      rw [← hls, hll] at this
      rw [h3.1]
      have e9 : ((some ⟨g, 0, none⟩ : Option Addr).map (·.add d)) = some ⟨g, d, none⟩ := by simp [Addr.add]; omega
      rw [e9]
      exact ⟨_, _, _, _, this⟩
  clear hW hK hk hls
  obtain ⟨L, hL⟩ : ∃ L, L = fs.length := ⟨_, rfl⟩
  rw [← hL] at c2 d2 HP hfl hkl2 hkd hcap
  have HL := hide hL
  have HLL := hide hll
  have s1 : (L : Int) - (k : Int) = (d : Int) := by omega
  have s2 : L - d = k := by omega
  have s3 : (0 : Int) ≤ (d : Int) := by omega
  have s4 : (d : Int) ≤ (L : Int) := by omega
  have s5 : d ≤ cap := by omega
  clear hL hd hkd hll
  have e1 : ((L + 1 : Nat) : Int) = (L : Int) + 1 := by omega
  rw [e1] at HP
  clear e1
  go_enter Tryz.func19, Tryz.ntmps19
  go_wp2_with (go_at_call 33; refine (unhide HP).mono ?_; rintro e w1 ⟨rfl, hw1⟩; have h1 := hw1.symm; subst h1)
  go_quiet (fail)
  all_goals (go_wp2_with fail)
  all_goals first
    | (have k0 : k = 0 := by omega
       have HT2 : Hid (∃ a2 b2 o2 c2, TextsAt w (.slice ao k 0) ls a2 b2 o2 c2) := by
         have e0 : ls = [] := List.length_eq_zero_iff.1 (by have := unhide HLL; omega)
         rw [e0, k0]
         exact ⟨ao, 0, 0, 0, rfl, fun h => by simp at h, fun i hi => by simp at hi⟩
       clear k0)
    | (have HT2 := HT)
  all_goals (
      clear HT
      obtain ⟨a2, b2, o2, c3, hT⟩ := unhide HT2
      have bq : Below w.heap.size w (w.drewN nq) := below_drewN (Below.refl _ _) _
      have HTq := hide (hT.keep bq)
      have HB := hide bq
      have HL2 : ls.length ≤ 1048576 := by have := unhide HLL; omega
      have HC0 := hide c4
      clear hT bq HT2 HP d2 c2 c4 s1 s2 s3 s4
      generalize w.drewN nq = wq at *
      refine (joined_any wq _ ls _ _ _ _ (unhide HTq) HL2).mono ?_
      rintro e w2 ⟨rfl, b2⟩
      have HT3 := hide ((unhide HTq).keep b2)
      have HB3 := hide (grew_call (unhide HB) b2)
      clear b2 HTq HB
      go_wp2_with fail
      refine (rjoin_any _ _ ls _ _ _ _ (unhide HT3) (by omega)).mono ?_
      rintro e w3 ⟨rfl, b3⟩
      have HB4 := hide (grew_call (unhide HB3) b3)
      have hJ := joinR_len ls
      clear b3 HT3 HB3 HLL
      generalize joinR ls = s at hJ ⊢
      generalize joinE ls = je at *
      go_wp2_with fail
      refine (gsplit_any s w3 (by omega)).mono ?_
      rintro e w4 ⟨va, rfl, hown4, b4⟩
      obtain ⟨q1, q2, q3⟩ := new_apart (unhide HK) (unhide HB4).size hown4
      have Q1 := hide q1
      have Q2 := hide q2
      have Q3 := hide q3
      have hz4 := (unhide HB4).size
      have HB5 := hide (grew_call (unhide HB4) b4)
      have HO4 := hide hown4
      clear hown4 b4 q1 q2 q3 HB4
      go_wp2_with fail
      refine (rsplit_any s w4 (by omega)).mono ?_
      rintro e w5 ⟨vd, rfl, hown5, b5⟩
      have HB6 := hide (grew_call (unhide HB5) b5)
      have HO5 := hide (own_keep (unhide HO4) b5)
      obtain ⟨aoA, bA, cA, hA⟩ := own_texts (unhide HO5)
      obtain ⟨aoD, bD, cD, hD⟩ := own_texts hown5
      have HsA := hide hA
      have HsD := hide hD
      have h8 := split_le s
      clear hA hD hown5 b5 HO4 HB5
      go_wp2_with fail
      refine (same_eq w5 va vd (splitR s) aoA aoD bA 0 cA bD 0 cD (unhide HsA) (unhide HsD) (by omega)).mono ?_
      rintro e w6 ⟨rfl, b6⟩
      have HB7 := hide (grew_call (unhide HB6) b6)
      have HO6 := hide (own_low2 (own_keep (unhide HO5) b6) (show B ≤ w3.heap.size by omega))
      have HK6 := hide ((unhide HK).grew (unhide HB7))
      have c4 := keep_cell (unhide HC0) (unhide HB7)
      have hBw : B ≤ w.heap.size := by omega
      clear b6 HsA HsD HB6 HO5
      go_wp2_with fail
      refine (holds_any B w6 gB vT vN next KT va (splitR s).length _ (unhide HK6) hkl hn0 hn1 (unhide HO6) h8 (unhide Q1) (unhide Q2) (unhide Q3)).mono ?_
      rintro e w7 ⟨rfl, vT7, vN7, K7, hb7, hl7, hS7, hbel7⟩
      have FIN : Hid (BundlePost p B w gB next KT w7) := ⟨vT7, vN7, K7, hb7, hl7, hS7, ((unhide HB7).mono hBw).trans hbel7⟩
      clear hb7 hl7 hS7 hbel7 HK6 HO6 Q1 Q2 Q3 HB7 HK HW c4
      go_wp2_with (go_at_call 13; refine (bits.num_any _ _).mono ?_; rintro e w8 ⟨rfl, hw8⟩; have h9 := hw8.symm; subst h9)
      go_ret
      exact ⟨by simp, unhide FIN⟩)

end Go.Proofs.YtgpojbgjfibblabGreat.texts.tx

namespace Go.Proofs.YtgpojbgjfibblabGreat.texts.tx
open Go.RowKit
set_option linter.unusedVariables false

set_option maxRecDepth 100000 in
set_option maxHeartbeats 2000000 in
theorem step_join (o : Oq) (wd : Nat) (w : World) (Q : Bool → World → Prop) (hk : o.kind = 9) (h : Calls Tryz.prog 19 #[.pointer (some ⟨wd, 0, none⟩), .int .i64 o.n] (w.alloc (.cells o.cells 45)) (Hands Q)) :
    Calls Tryz.prog 7 #[.pointer (some ⟨wd, 0, none⟩), .agg o.cells] w (Hands Q) := by
  have H := hide h
  clear h
  unfold Oq.cells
  rw [hk]
  go_enter Tryz.func7, Tryz.ntmps7
  go_wp2_with (go_at_call 19; refine Stop.out ?_)
  refine ⟨?_⟩
  have h := unhide H
  unfold Oq.cells at h
  rw [hk] at h
  refine Calls.mono h ?_
  rintro e w1 ⟨v, rfl, h1⟩
  have H1 := hide h1
  clear h1 h H
  go_wp2_with fail
  go_ret
  exact ⟨v, rfl, unhide H1⟩

/-- a text's block among a world's own is the one of what it sent -/
theorem Parts.str {B : Nat} {w : World} {gB t : Nat} {x : Ids} {fs : List (List UInt8)} {bk : List UInt8} {m : Snd} {d : Doc} {k : Nat} {mr : Rcv} {dr : Doc} (h : Parts B w gB t x fs bk m d k mr dr) {q : Nat} (hq : x.foot q) {cur : Array Value} {fr : Nat × Nat} (hc : w.heap[q]? = some (.cells cur 9 fr)) : x.vs.ownBlock = some q := by
  rcases hq with rfl | rfl | rfl | rfl | rfl | rfl | rfl | e
  · exact absurd rfl (apart_ty h.wat.blk hc (by decide))
  · exact absurd rfl (apart_ty h.sat.snd hc (by decide))
  · exact absurd rfl (apart_ty h.sat.doc.head hc (by decide))
  · exact absurd rfl (apart_ty h.sat.doc.rows hc (by decide))
  · exact absurd rfl (apart_ty h.rat.rcv hc (by decide))
  · exact absurd rfl (apart_ty h.rat.doc.head hc (by decide))
  · exact absurd rfl (apart_ty h.rat.doc.rows hc (by decide))
  · exact e

/-- the book's lists of texts, beside two pairs of ends -/
structure TxIn (B : Nat) (w : World) (x1 x2 : Ids) (vT vN : Value) (KT : List (Value × List UInt8)) : Prop where
  oT : w.ownsRow B 31 1 vT KT.length (KT.map (·.1))
  oN : w.ownsRow B 9 1 vN KT.length (KT.map fun e => .string (bs e.2))
  kept : ∀ e ∈ KT, KeptOk w e.1 e.2
  short : Shorts KT
  apN : ∀ g, vN.ownBlock = some g → x1.vs.ownBlock ≠ some g ∧ x2.vs.ownBlock ≠ some g
  apK : ∀ e ∈ KT, ∀ g, e.1.ownBlock = some g → vN.ownBlock ≠ some g ∧ x1.vs.ownBlock ≠ some g ∧ x2.vs.ownBlock ≠ some g
theorem TxIn.nil (B : Nat) (w : World) (x1 x2 : Ids) : TxIn B w x1 x2 (.slice none 0 0) (.slice none 0 0) [] :=
  ⟨World.ownsRow_nil _ _ _ _, World.ownsRow_nil _ _ _ _, fun e he => by simp at he, fun e he => by simp at he, fun g hg => by simp [Value.ownBlock] at hg, fun e he => by simp at he⟩
theorem TxIn.at_ {B : Nat} {w : World} {x1 x2 : Ids} {vT vN : Value} {KT : List (Value × List UInt8)} (h : TxIn B w x1 x2 vT vN KT) : TxAt B w vT vN KT :=
  ⟨h.oT, h.oN, fun e he => (h.kept e he).plain, h.short⟩
theorem TxIn.swap {B : Nat} {w : World} {x1 x2 : Ids} {vT vN : Value} {KT : List (Value × List UInt8)} (h : TxIn B w x1 x2 vT vN KT) : TxIn B w x2 x1 vT vN KT :=
  ⟨h.oT, h.oN, h.kept, h.short, fun g hg => ⟨(h.apN g hg).2, (h.apN g hg).1⟩, fun e he g hg => ⟨(h.apK e he g hg).1, (h.apK e he g hg).2.2, (h.apK e he g hg).2.1⟩⟩
theorem TxIn.onlyT {ts : List TypeId} {B : Nat} {w w' : World} {x1 x2 : Ids} {vT vN : Value} {KT : List (Value × List UInt8)} (h : TxIn B w x1 x2 vT vN KT) (o : OnlyT ts w w') (h1 : 31 ∉ ts) (h2 : 9 ∉ ts) : TxIn B w' x1 x2 vT vN KT :=
  ⟨o.own h.oT h1, o.own h.oN h2, fun e he => (h.kept e he).keep o.size (fun g hg _ => by obtain ⟨cur, hc⟩ := (h.kept e he).ty hg; exact o.block g _ _ _ hc h2), h.short, h.apN, h.apK⟩
theorem TxIn.grew {B : Nat} {w w' : World} {x1 x2 : Ids} {vT vN : Value} {KT : List (Value × List UInt8)} (h : TxIn B w x1 x2 vT vN KT) (hb : Below w.heap.size w w') : TxIn B w' x1 x2 vT vN KT :=
  h.onlyT (OnlyT.of_below (ts := []) hb) (by simp) (by simp)
/-- the first pair has gone a step on -/
theorem TxIn.step {B : Nat} {w w' : World} {gB t : Nat} {x1 x2 y1 : Ids} {vT vN : Value} {KT : List (Value × List UInt8)} {fs : List (List UInt8)} {bk : List UInt8} {m : Snd} {d : Doc} {k : Nat} {mr : Rcv} {dr : Doc} (h : TxIn B w x1 x2 vT vN KT) (p : Parts B w gB t x1 fs bk m d k mr dr) (o : Only x1.foot w w')
    (hy : ∀ g, y1.vs.ownBlock = some g → x1.vs.ownBlock = some g ∨ w.heap.size ≤ g) : TxIn B w' y1 x2 vT vN KT := by
  have str : ∀ g cur, w.heap[g]? = some (.cells cur 9 (0, 0)) → x1.vs.ownBlock ≠ some g → w'.heap[g]? = w.heap[g]? := fun g cur hc hn => o.block g (block_lt hc) (fun e => hn (Parts.str p e hc))
  refine ⟨own_same h.oT (fun g hg => ?_), own_same h.oN (fun g hg => ?_), fun e he => (h.kept e he).keep o.size (fun g hg _ => ?_), h.short, fun g hg => ⟨fun e => ?_, (h.apN g hg).2⟩, fun e he g hg => ⟨(h.apK e he g hg).1, fun e' => ?_, (h.apK e he g hg).2.2⟩⟩
  · obtain ⟨cur, hc⟩ := own_ty h.oT hg
    refine o.block g (block_lt hc) (fun e => ?_)
    obtain ⟨_, cs, t, fr, h1, h2⟩ := p.ty e
    rw [hc] at h1
    simp only [Option.some.injEq, Obj.cells.injEq] at h1
    exact absurd h2 (by rw [← h1.2.1]; decide)
  · obtain ⟨cur, hc⟩ := own_ty h.oN hg
    exact str g cur hc (h.apN g hg).1
  · obtain ⟨cur, hc⟩ := (h.kept e he).ty hg
    exact str g cur hc (h.apK e he g hg).2.1
  · rcases hy g e with c | c
    · exact (h.apN g hg).1 c
    · have := (own_lt h.oN hg).2
      omega
  · rcases hy g e' with c | c
    · exact (h.apK e he g hg).2.1 c
    · have := (h.kept e he).lt hg
      omega

/-- both pairs, and the book -/
structure Both2 (B : Nat) (w : World) (gB i : Nat) (x1 x2 : Ids) (vF vM vT vN : Value) (next : Int) (K : List (Value × Int)) (KT : List (Value × List UInt8)) (wr : World) : Prop where
  one : Half2 B wr gB i x1
  two : Half2 B wr gB i x2
  apart : ∀ k, x1.foot k → ¬ x2.foot k
  book : BkAt B wr gB vF vM vT vN next K
  tx : TxIn B wr x1 x2 vT vN KT
  sh : FShorts K
  kl : K.length ≤ 8 * i
  tl : KT.length ≤ 4 * i
  nl : -(2 * (i : Int)) ≤ next
  nu : next ≤ 0
  bel : Below B w wr
def TakesP (B : Nat) (w : World) (gB i wd1 wd2 : Nat) (wr : World) : Prop := ∃ x1 x2 vF vM vT vN next K KT, x1.wd = wd1 ∧ x2.wd = wd2 ∧ Both2 B w gB i x1 x2 vF vM vT vN next K KT wr
theorem Both2.low {B : Nat} {w wr : World} {gB i : Nat} {x1 x2 : Ids} {vF vM vT vN : Value} {next : Int} {K : List (Value × Int)} {KT : List (Value × List UInt8)} (h : Both2 B w gB i x1 x2 vF vM vT vN next K KT wr) : B ≤ wr.heap.size := by
  have := h.book.low
  have := block_lt h.book.blk
  omega
theorem TakesP.grew {B : Nat} {w wr w' : World} {gB i wd1 wd2 : Nat} (h : TakesP B w gB i wd1 wd2 wr) (hb : Below wr.heap.size wr w') {i' : Nat} (hi : i ≤ i') : TakesP B w gB i' wd1 wd2 w' := by
  obtain ⟨x1, x2, vF, vM, vT, vN, next, K, KT, e1, e2, p⟩ := h
  have hl := p.low
  have kl := p.kl
  have tl := p.tl
  have nl := p.nl
  exact ⟨x1, x2, vF, vM, vT, vN, next, K, KT, e1, e2, p.one.grew hb hi, p.two.grew hb hi, p.apart, p.book.grew hb, p.tx.grew hb, p.sh, by omega, by omega, by omega, p.nu, p.bel.trans (hb.mono hl)⟩
theorem TakesP.swap {B : Nat} {w wr : World} {gB i wd1 wd2 : Nat} (h : TakesP B w gB i wd1 wd2 wr) : TakesP B w gB i wd2 wd1 wr := by
  obtain ⟨x1, x2, vF, vM, vT, vN, next, K, KT, e1, e2, p⟩ := h
  exact ⟨x2, x1, vF, vM, vT, vN, next, K, KT, e2, e1, p.two, p.one, fun k a b => p.apart k b a, p.book, p.tx.swap, p.sh, p.kl, p.tl, p.nl, p.nu, p.bel⟩
theorem TakesP.below {B : Nat} {w wr : World} {gB i wd1 wd2 : Nat} (h : TakesP B w gB i wd1 wd2 wr) : Below B w wr := by
  obtain ⟨x1, x2, vF, vM, vT, vN, next, K, KT, e1, e2, p⟩ := h
  exact p.bel
/-- the first has gone a step on -/
theorem Both2.step {B : Nat} {w wr w' : World} {gB i : Nat} {x1 x2 y1 : Ids} {vF vM vT vN : Value} {next : Int} {K : List (Value × Int)} {KT : List (Value × List UInt8)} (h : Both2 B w gB i x1 x2 vF vM vT vN next K KT wr) (h1 : Half2 B w' gB (i + 1) y1) (o : Only x1.foot wr w') (hy : ∀ k, y1.foot k → x1.foot k ∨ wr.heap.size ≤ k) (hv : ∀ g, y1.vs.ownBlock = some g → x1.vs.ownBlock = some g ∨ wr.heap.size ≤ g) : Both2 B w gB (i + 1) y1 x2 vF vM vT vN next K KT w' := by
  obtain ⟨fs, bk, m, d, k, mr, dr, p⟩ := h.one
  have ty := fun q (e : x1.foot q) => (p.ty e).2
  have oT := OnlyT.of_only o ty
  have kl := h.kl
  have tl := h.tl
  have nl := h.nl
  refine ⟨h1, h.two.rest o (by omega) (fun q e => ?_) (fun q e => h.apart q e), fun q a b => ?_, h.book.only oT (by decide) (by decide) (by decide) (by decide), h.tx.step p o hv, h.sh, by omega, by omega, by omega, h.nu, h.bel.trans (only_low o h.low (fun q e => (p.ty e).1))⟩
  · obtain ⟨cs, t, fr, a, b⟩ := ty q e
    exact ⟨cs, t, fr, a, not_two b (by decide) (by decide)⟩
  · rcases hy q a with c | c
    · exact h.apart q c b
    · have := h.two.lt b
      omega
/-- what is told goes into the book -/
theorem Both2.told {B : Nat} {w wr w' : World} {gB i : Nat} {x1 x2 : Ids} {vF vM vT vN : Value} {next : Int} {K : List (Value × Int)} {KT : List (Value × List UInt8)} (h : Both2 B w gB i x1 x2 vF vM vT vN next K KT wr) (hp : ToldPost B wr gB vT vN next K w') : ∃ vF' vM' K', Both2 B w gB (i + 1) x1 x2 vF' vM' vT vN (next - 2) K' KT w' := by
  obtain ⟨vF', vM', K', bk', kl', fs', b', o'⟩ := hp
  have kl := h.kl
  have tl := h.tl
  have nl := h.nl
  have nu := h.nu
  exact ⟨vF', vM', K', h.one.onlyT o' (by omega) (by decide) (by decide) (by decide) (by decide) (by decide) (by decide) (by decide) (by decide), h.two.onlyT o' (by omega) (by decide) (by decide) (by decide) (by decide) (by decide) (by decide) (by decide) (by decide), h.apart, bk', h.tx.onlyT o' (by decide) (by decide), fs', by omega, by omega, by omega, by omega, h.bel.trans b'⟩

/-- from where a bundle keeps its lists -/
def from_ (w : World) (x1 x2 : Ids) (vF vM vT vN : Value) (h : ∀ g, w.heap.size ≤ g → x1.vs.ownBlock ≠ some g ∧ x2.vs.ownBlock ≠ some g) : P0 :=
  ⟨w, vT.ownBlock, vN.ownBlock, vF, vM, fun g => x1.vs.ownBlock ≠ some g ∧ x2.vs.ownBlock ≠ some g, h⟩
theorem Both2.from_ok {B : Nat} {w wr : World} {gB i : Nat} {x1 x2 : Ids} {vF vM vT vN : Value} {next : Int} {K : List (Value × Int)} {KT : List (Value × List UInt8)} (h : Both2 B w gB i x1 x2 vF vM vT vN next K KT wr) : ∀ g, wr.heap.size ≤ g → x1.vs.ownBlock ≠ some g ∧ x2.vs.ownBlock ≠ some g := by
  intro g hg
  refine ⟨fun e => ?_, fun e => ?_⟩
  · have := h.one.lt (q := g) (Or.inr (Or.inr (Or.inr (Or.inr (Or.inr (Or.inr (Or.inr e)))))))
    omega
  · have := h.two.lt (q := g) (Or.inr (Or.inr (Or.inr (Or.inr (Or.inr (Or.inr (Or.inr e)))))))
    omega
theorem Both2.before {B : Nat} {w wr : World} {gB i : Nat} {x1 x2 : Ids} {vF vM vT vN : Value} {next : Int} {K : List (Value × Int)} {KT : List (Value × List UInt8)} (h : Both2 B w gB i x1 x2 vF vM vT vN next K KT wr) : BookAt (from_ wr x1 x2 vF vM vT vN h.from_ok) B wr gB vT vN next KT := by
  refine ⟨h.book.blk, h.tx.oT, h.tx.oN, h.book.low, fun e he => ⟨h.tx.kept e he, fun g hg => ?_⟩, ⟨Nat.le_refl _, fun _ _ _ _ _ => rfl, Or.inl rfl, Or.inl rfl⟩⟩
  obtain ⟨cur, hc⟩ := (h.tx.kept e he).ty hg
  refine ⟨apart_ty hc h.book.blk (by decide), fun e' => ?_, (h.tx.apK e he g hg).1, (h.tx.apK e he g hg).2⟩
  obtain ⟨c2, h2⟩ := own_ty h.tx.oT e'
  exact apart_ty hc h2 (by decide) rfl
/-- the first has joined and split its last frames -/
theorem Both2.joined {B : Nat} {w wr w' : World} {gB i : Nat} {x1 x2 : Ids} {vF vM vT vN : Value} {next : Int} {K : List (Value × Int)} {KT : List (Value × List UInt8)} (h : Both2 B w gB i x1 x2 vF vM vT vN next K KT wr) (hp : BundlePost (from_ wr x1 x2 vF vM vT vN h.from_ok) B wr gB next KT w') : ∃ vT' vN' KT', Both2 B w gB (i + 1) x1 x2 vF vM vT' vN' (next - 1) K KT' w' := by
  obtain ⟨vT', vN', KT', hb, hl, hs, bel⟩ := hp
  have kl := h.kl
  have tl := h.tl
  have nl := h.nl
  have nu := h.nu
  have P := hb.past
  have o : Only (fun k => k = gB ∨ vT.ownBlock = some k ∨ vN.ownBlock = some k) wr w' := ⟨bel.os, bel.tape, bel.output, bel.size, fun k hk hn => P.fr k hk (fun e => hn (Or.inl e)) (fun e => hn (Or.inr (Or.inl e))) (fun e => hn (Or.inr (Or.inr e)))⟩
  have ty : ∀ k, (k = gB ∨ vT.ownBlock = some k ∨ vN.ownBlock = some k) → ∃ cs t fr, wr.heap[k]? = some (.cells cs t fr) ∧ t ∈ [33, 31, 9] := by
    rintro k (rfl | e | e)
    · exact ⟨_, _, _, h.book.blk, by simp⟩
    · obtain ⟨cur, hc⟩ := own_ty h.tx.oT e
      exact ⟨_, _, _, hc, by simp⟩
    · obtain ⟨cur, hc⟩ := own_ty h.tx.oN e
      exact ⟨_, _, _, hc, by simp⟩
  have oT := OnlyT.of_only o ty
  have nt : ∀ k, (k = gB ∨ vT.ownBlock = some k ∨ vN.ownBlock = some k) → ∃ cs t fr, wr.heap[k]? = some (.cells cs t fr) ∧ t ≠ 61 ∧ t ≠ 128 := fun k e => by
    obtain ⟨cs, t, fr, a, b⟩ := ty k e
    exact ⟨cs, t, fr, a, not_two b (by decide) (by decide)⟩
  have off : ∀ x : Ids, Half2 B wr gB i x → (∀ g, vN.ownBlock = some g → x.vs.ownBlock ≠ some g) → ∀ k, (k = gB ∨ vT.ownBlock = some k ∨ vN.ownBlock = some k) → ¬ x.foot k := by
    rintro x ⟨fs, bk, m, d, j, mr, dr, p⟩ hx k hk hf
    rcases hk with rfl | e | e
    · obtain ⟨_, cs, t, fr, h1, h2⟩ := p.ty hf
      rw [h.book.blk] at h1
      simp only [Option.some.injEq, Obj.cells.injEq] at h1
      exact absurd h2 (by rw [← h1.2.1]; decide)
    · obtain ⟨cur, hc⟩ := own_ty h.tx.oT e
      obtain ⟨_, cs, t, fr, h1, h2⟩ := p.ty hf
      rw [hc] at h1
      simp only [Option.some.injEq, Obj.cells.injEq] at h1
      exact absurd h2 (by rw [← h1.2.1]; decide)
    · obtain ⟨cur, hc⟩ := own_ty h.tx.oN e
      exact hx k e (Parts.str p hf hc)
  refine ⟨vT', vN', KT', h.one.rest o (by omega) nt (off x1 h.one (fun g hg => (h.tx.apN g hg).1)), h.two.rest o (by omega) nt (off x2 h.two (fun g hg => (h.tx.apN g hg).2)), h.apart, ⟨hb.blk, oT.own h.book.oF (by decide), oT.own h.book.oM (by decide), h.book.low, fun e he => (h.book.kept e he).only oT (by decide)⟩,
    ⟨hb.oT, hb.oN, fun e he => (hb.kept e he).1, hs h.tx.short, fun g hg => ?_, fun e he g hg => ⟨((hb.kept e he).2 g hg).2.2.1, ((hb.kept e he).2 g hg).2.2.2⟩⟩, h.sh, by omega, by omega, by omega, by omega, h.bel.trans bel⟩
  rcases P.tN with e | ⟨g', e, hg'⟩
  · rw [e] at hg
    exact h.tx.apN g hg
  · rw [e] at hg
    simp at hg
    subst hg
    exact h.from_ok _ hg'

end Go.Proofs.YtgpojbgjfibblabGreat.texts.tx
