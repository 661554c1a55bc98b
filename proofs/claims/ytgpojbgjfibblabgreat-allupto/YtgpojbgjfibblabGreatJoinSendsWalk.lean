/-
  The walks of a world's hear and told, of step and of sender (package gistlaw), on the sender's side. The walks of step and of sender (package gistlaw). The walk of the statement Sends (package gistlaw).
  Conditions stand in each theorem.
-/
import Derived.Test.YtgpojbgjfibblabGreatWorldWalk
namespace Go.Proofs.YtgpojbgjfibblabGreat.texts
open Go.RowKit
set_option linter.unusedVariables false
attribute [local go_sem ↓] Go.wp_at_zero Go.wp_at_succ
attribute [local go_sem] bs_size

set_option maxRecDepth 100000 in
set_option maxHeartbeats 4000000 in
theorem whear_any (B : Nat) (wd gp gs ge gl gB : Nat) (rv vs : Value) (fs : List (List UInt8)) (bk : List UInt8) (m : Snd) (d : Doc) (k : Nat) (l : List UInt8) (w : World) (hW : WAt B w wd gp gB rv vs fs bk) (hS : SAt B w gp gs ge gl m d) (hE : Ends m d k) (hl : l.length ≤ maxLen) :
    Calls Tryz.prog 15 #[.pointer (some ⟨wd, 0, none⟩), .string (bs l)] w fun e w' => e = .returned (.bool true) ∧ SentPost B w wd gp gs ge gl gB rv vs bk fs d w' := by
  have HW := hide hW
  have HS := hide hS
  have HE := hide hE
  have HL := hide hl
  obtain ⟨hee, E2⟩ := hE.hear l
  have HE2 := hide E2
  obtain ⟨N, hN⟩ : ∃ N, N = hearE m l := ⟨_, rfl⟩
  have HN := hide hN
  have HN2 := hide (hN.trans hee)
  have c0 : w.cell? ⟨wd, 0, none⟩ = some (.pointer (some ⟨gp, 0, none⟩)) := block_cell hW.blk 0
  have c1 : w.cell? ⟨gp, 0, none⟩ = some (.pointer (some ⟨gs, 0, none⟩)) := block_cell hS.pair 0
  have hk4 : d.keep ≤ 4 := by rw [hE.rel.keep]; exact hE.ok.k4
  have hne : ge ≠ gl := apart_ty hS.doc.head hS.doc.rows (by decide)
  clear hW hS hE hl hee E2 hN
  go_enter Tryz.func15, Tryz.ntmps15
  go_wp2_with fail
  go_at_call 24
  refine (ghear_any m gs l _ (unhide HE).ok (unhide HS).snd (unhide HL)).mono ?_
  rintro e w1 ⟨rfl, h1, h2⟩
  rw [← unhide HN]
  have oT : OnlyT [82] w w1 := OnlyT.of_only h2 (fun q e => by subst e; exact ⟨_, _, _, (unhide HS).snd, by simp⟩)
  have S1 : SAt B w1 gp gs ge gl (hearM m l) d := ⟨oT.keep (unhide HS).pair (by decide), h1, ⟨oT.keep (unhide HS).doc.head (by decide), oT.keep (unhide HS).doc.rows (by decide), (unhide HS).doc.sl⟩, (unhide HS).sts.same (fun q cs hq => oT.block q cs _ _ hq (by decide)), (unhide HS).ls, (unhide HS).le, (unhide HS).ll⟩
  have W1 := (unhide HW).onlyT oT (by decide) (by decide)
  have c0 : w1.cell? ⟨wd, 0, none⟩ = some (.pointer (some ⟨gp, 0, none⟩)) := block_cell W1.blk 0
  have c2 : w1.cell? ⟨gp, 2, none⟩ = some (.pointer (some ⟨ge, 0, none⟩)) := block_cell S1.pair 2
  have HS1 := hide S1
  have HW1 := hide W1
  have HO1 := hide h2
  clear h1 h2 oT S1 W1 c1
  go_wp2_with fail
  go_at_call 25
  refine (dhear_any d ge gl l _ (unhide HS1).doc hne (unhide HL) hk4).mono ?_
  rintro e w2 ⟨rfl, h1, h2⟩
  rw [← unhide HN2]
  have oT : OnlyT [126] w1 w2 := OnlyT.of_only h2 (fun q e => by subst e; exact ⟨_, _, _, (unhide HS1).doc.rows, by simp⟩)
  have st2 : StsIn w2 B (docHearM d l) := by
    intro i hi
    obtain ⟨e1, e2, e3, _⟩ := docHearM_at d l i
    rw [e2, e3]
    have := (unhide HS1).sts i (by omega)
    exact ⟨oT.own this.1 (by decide), this.2⟩
  have S2 : SAt B w2 gp gs ge gl (hearM m l) (docHearM d l) := ⟨oT.keep (unhide HS1).pair (by decide), oT.keep (unhide HS1).snd (by decide), h1, st2, (unhide HS1).ls, (unhide HS1).le, (unhide HS1).ll⟩
  have W2 := (unhide HW1).onlyT oT (by decide) (by decide)
  have o2 : Only (sendS wd gs ge gl vs) w w2 := ((unhide HO1).mono (fun q e => Or.inr (Or.inl e))).trans (h2.mono (fun q e => Or.inr (Or.inr (Or.inr (Or.inl e)))))
  have fin := hide (show SentPost B w wd gp gs ge gl gB rv vs bk fs d w2 from ⟨_, _, k, vs, fs, unhide HE2, by rw [(docHearM_at d l 0).2.2.2]; omega, by omega, fun h => h, S2, W2, Or.inl rfl, o2⟩)
  clear h1 h2 oT st2 S2 W2 o2 c0 c2
  go_wp2_with (go_at_call 13; refine (bits.num_any _ _).mono ?_; rintro e w5 ⟨rfl, h5⟩; have h5 := h5.symm; subst h5)
  go_ret
  exact ⟨rfl, unhide fin⟩

/-- the book has grown by what was told -/
def ToldPost (B : Nat) (w : World) (gB : Nat) (vT vN : Value) (next : Int) (K : List (Value × Int)) (w' : World) : Prop :=
  ∃ vF' vM' K', BkAt B w' gB vF' vM' vT vN (next - 2) K' ∧ K'.length = K.length + 8 ∧ FShorts K' ∧ Below B w w' ∧ OnlyT ownsT w w'

/-- lists that two ends told are taken into the book -/
theorem bk_old {B : Nat} {w : World} {gB : Nat} {vF vM vT vN : Value} {next : Int} {K : List (Value × Int)} (h : BkAt B w gB vF vM vT vN next K) {e : Value × Int} (he : e ∈ K) {g : Nat} (hg : e.1.ownBlock = some g) : g < w.heap.size := by
  obtain ⟨cur, hc⟩ := (h.kept e he).ty hg
  exact block_lt hc

set_option maxRecDepth 100000 in
set_option maxHeartbeats 8000000 in
theorem wtold_snd (B : Nat) (wd gp gs ge gl gB : Nat) (rv vs : Value) (fs : List (List UInt8)) (bk : List UInt8) (m : Snd) (d : Doc) (k : Nat) (vF vM vT vN : Value) (next : Int) (K : List (Value × Int)) (w : World) (hW : WAt B w wd gp gB rv vs fs bk) (hS : SAt B w gp gs ge gl m d) (hE : Ends m d k) (ht : d.sent + 1 < 4611686018427387904)
    (hK : BkAt B w gB vF vM vT vN next K) (hFS : FShorts K) (hlen : K.length ≤ 268435456) (h0 : -268435456 ≤ next) (h1 : next ≤ 268435456) :
    Calls Tryz.prog 16 #[.pointer (some ⟨wd, 0, none⟩), .bool true] w fun e w' => e = .returned (.bool true) ∧ ToldPost B w gB vT vN next K w' := by
  have HW := hide hW
  have HS := hide hS
  have HE := hide hE
  have HK := hide hK
  have HFS := hide hFS
  have hBw : B ≤ w.heap.size := by have := block_lt hK.blk; have := hK.low; omega
  have hc8 := hE.ok.c8
  obtain ⟨f1, f2⟩ := rel_flows hE.ok hE.fit hE.rel
  have hcl : d.cs.length = d.cids := by rw [hE.rel.len, hE.rel.cids]
  rw [← hcl] at f1 f2
  have F1 := hide f1
  have F2 := hide f2
  have c0 : w.cell? ⟨wd, 0, none⟩ = some (.pointer (some ⟨gp, 0, none⟩)) := block_cell hW.blk 0
  have c1 : w.cell? ⟨gp, 0, none⟩ = some (.pointer (some ⟨gs, 0, none⟩)) := block_cell hS.pair 0
  have c2 : w.cell? ⟨gp, 2, none⟩ = some (.pointer (some ⟨ge, 0, none⟩)) := block_cell hS.pair 2
  have c4 : w.cell? ⟨wd, 4, none⟩ = some (.pointer (some ⟨gB, 0, none⟩)) := block_cell hW.blk 4
  obtain ⟨hrows, hrl⟩ := flows_rows m 8
  have hcn := countK_le m 8
  obtain ⟨C, hC⟩ : ∃ C, C = countK m 8 := ⟨_, rfl⟩
  obtain ⟨X, hX⟩ : ∃ X, X = flowsK m 8 := ⟨_, rfl⟩
  rw [← hC] at hrows hcn
  rw [← hX] at hrows
  have HR := hide hrows
  have HC := hide hC
  have HX := hide hX
  have C0 := hide c0
  have C1 := hide c1
  have C2 := hide c2
  have C4 := hide c4
  have HD8 := hide (show d.cs.length ≤ 8 by rw [hE.rel.len]; exact hc8)
  clear hW hS hE hK hFS f1 f2 hcl hrows hrl hC hX
  go_enter Tryz.func16, Tryz.ntmps16
  go_wp2_with fail
  go_at_call 26
  refine (gflows_any m gs _ (unhide HE).ok (unhide HS).snd).mono ?_
  rintro e w1 ⟨l, rfl, o1, b1⟩
  rw [← unhide HC, ← unhide HX] at o1
  have HO1 := hide o1
  have HB1 := hide b1
  have c0 := keep_cell (unhide C0) b1
  have c1 := keep_cell (unhide C1) b1
  clear o1 b1
  go_wp2_with fail
  go_at_call 26
  refine (gflows_any m gs _ (unhide HE).ok ((unhide HS).grew (unhide HB1)).snd).mono ?_
  rintro e w2 ⟨q, rfl, o2, b2⟩
  rw [← unhide HC, ← unhide HX] at o2
  have HO2 := hide o2
  have HO1' := hide (own_same (unhide HO1) (fun g hg => by obtain ⟨cur, hc⟩ := own_ty (unhide HO1) hg; exact b2.block g (block_lt hc)))
  have HQ := hide (fun g hg g' hg' => by
    have h1 := ((unhide HO1).lt g hg).2
    have h2 := (o2.lt g' hg').1
    omega : ∀ g, l.ownBlock = some g → ∀ g', q.ownBlock = some g' → g ≠ g')
  have HB2 := hide (grew_call (unhide HB1) b2)
  have hz1 := (unhide HB1).size
  have c0 := keep_cell (unhide C0) (unhide HB2)
  have c2 := keep_cell (unhide C2) (unhide HB2)
  clear o2 b2 c1 HO1 HB1
  go_wp2_with fail
  go_at_call 27
  refine (dflows_any d ge gl _ ((unhide HS).grew (unhide HB2)).doc (fun i hi => StsAt.of_own (((unhide HS).grew (unhide HB2)).sts i hi).1 (by have := (((unhide HS).grew (unhide HB2)).sts i hi).2; omega)) (fun i hi => by have := (unhide HE).well (unhide HS).sts (unhide HS).doc ht i hi; exact ⟨this.turn, this.sts, by have := this.sent; omega⟩) (unhide HD8)).mono ?_
  rintro e w3 ⟨r, rfl, o3, b3⟩
  rw [unhide F1, unhide F2, ← unhide HC, ← unhide HX] at o3
  have HO3 := hide o3
  have HO1 := hide (own_same (unhide HO1') (fun g hg => by obtain ⟨cur, hc⟩ := own_ty (unhide HO1') hg; exact b3.block g (block_lt hc)))
  have HO2' := hide (own_same (unhide HO2) (fun g hg => by obtain ⟨cur, hc⟩ := own_ty (unhide HO2) hg; exact b3.block g (block_lt hc)))
  have HB3 := hide (grew_call (unhide HB2) b3)
  obtain ⟨al, cl, hl⟩ := own_sl (unhide HO1)
  obtain ⟨aq, cq, hq⟩ := own_sl (unhide HO2')
  obtain ⟨ar, cr, hr⟩ := own_sl o3
  have Hl := hide hl
  have Hq := hide hq
  clear o3 b3 c0 c2 HO1' HO2 HB2 hl hq hr
  go_wp2_with fail
  go_at_call 29
  refine (sameFlows_any _ l r C _ _ X (unhide HO1) (unhide HO3) (unhide HR) (by omega)).mono ?_
  rintro e w4 ⟨rfl, b4⟩
  have HB4 := hide b4
  clear b4
  go_wp2_with fail
  go_at_call 29
  refine (sameFlows_any _ q r C _ _ X (own_same (unhide HO2') (fun g hg => by obtain ⟨cur, hc⟩ := own_ty (unhide HO2') hg; exact (unhide HB4).block g (block_lt hc))) (own_same (unhide HO3) (fun g hg => by obtain ⟨cur, hc⟩ := own_ty (unhide HO3) hg; exact (unhide HB4).block g (block_lt hc))) (unhide HR) (by omega)).mono ?_
  rintro e w5 ⟨rfl, b5⟩
  have HB45 := hide (grew_call (unhide HB4) b5)
  have HB5 := hide (grew_call (unhide HB3) (unhide HB45))
  have L5 := hide (own_dn (own_same (unhide HO1) (fun g hg => by obtain ⟨cur, hc⟩ := own_ty (unhide HO1) hg; exact (unhide HB45).block g (block_lt hc))) hBw)
  have Q5 := hide (own_dn (own_same (unhide HO2') (fun g hg => by obtain ⟨cur, hc⟩ := own_ty (unhide HO2') hg; exact (unhide HB45).block g (block_lt hc))) (Nat.le_trans hBw hz1))
  have lnew := hide (fun g hg => ((unhide HO1).lt g hg).1 : ∀ g, l.ownBlock = some g → w.heap.size ≤ g)
  have qnew := hide (fun g hg => Nat.le_trans hz1 ((unhide HO2').lt g hg).1 : ∀ g, q.ownBlock = some g → w.heap.size ≤ g)
  have c4 := keep_cell (unhide C4) (unhide HB5)
  clear b5 HO1 HO2' HO3 HB3 HB4 HB45
  go_wp2_with fail
  go_at_call 30
  refine (fowns_any B _ gB vF vM vT vN next K l C X ((unhide HK).grew (unhide HB5)) (by omega) (by omega) (by omega) (unhide L5) (by omega) (fun e he g hg h2 => by have h3 := unhide lnew g hg; have h4 := bk_old (unhide HK) he h2; omega)).mono ?_
  rintro e w6 ⟨rfl, vF6, vM6, K6, k6, n6, s6, nw6, b6, t6⟩
  have HK6 := hide k6
  have HS6 := hide (s6 (unhide HFS))
  have HNW := hide nw6
  have HB6 := hide b6
  have HT6 := hide t6
  have W6 := ((unhide HW).grew (unhide HB5)).onlyT t6.onlyT (by decide) (by decide)
  have c4 : w6.cell? ⟨wd, 4, none⟩ = some (.pointer (some ⟨gB, 0, none⟩)) := block_cell W6.blk 4
  have Q6 := hide (own_same (unhide Q5) (fun g hg => by
    obtain ⟨cur, hc⟩ := own_ty (unhide Q5) hg
    exact t6.flow g cur _ hc (fun e => unhide HQ g e g hg rfl)))
  have QK := hide (fun e he g hg h2 => by
    obtain ⟨cur, hc⟩ := own_ty (unhide Q5) hg
    have hlt := block_lt hc
    rcases nw6 e he with h3 | h3 | h3
    · have h4 := bk_old (unhide HK) h3 h2
      have h5 := unhide qnew g hg
      omega
    · rw [h2] at h3
      exact unhide HQ g h3.symm g hg rfl
    · have := h3 g h2
      omega : ∀ e ∈ K6, ∀ g, q.ownBlock = some g → e.1.ownBlock ≠ some g)
  clear k6 s6 nw6 b6 t6 W6 L5 Q5 HNW HQ
  go_wp2_with fail
  go_at_call 30
  refine (fowns_any B _ gB vF6 vM6 vT vN (next - 1) K6 q C X (unhide HK6) (by omega) (by omega) (by omega) (unhide Q6) (by omega) (unhide QK)).mono ?_
  rintro e w7 ⟨rfl, vF7, vM7, K7, k7, n7, s7, nw7, b7, t7⟩
  have fin := hide (show ToldPost B w gB vT vN next K w7 from ⟨vF7, vM7, K7, by rw [show next - 2 = next - 1 - 1 by omega]; exact k7, by omega, s7 (unhide HS6), ((unhide HB5).mono hBw).trans ((unhide HB6).trans b7), (OnlyT.of_below (unhide HB5)).trans ((unhide HT6).onlyT.trans t7.onlyT)⟩)
  clear k7 n7 s7 nw7 b7 t7 Q6 QK HK6 HS6 HB6 HT6
  go_wp2
  go_ret
  exact ⟨rfl, unhide fin⟩

end Go.Proofs.YtgpojbgjfibblabGreat.texts

namespace Go.Proofs.YtgpojbgjfibblabGreat.texts
open Go.RowKit
set_option linter.unusedVariables false
attribute [local go_sem ↓] Go.wp_at_zero Go.wp_at_succ

/-- one step of a script -/
structure Oq where
  kind : Int
  n : Int
  p : Pk
  s : List UInt8
def Oq.cells (o : Oq) : Array Value := #[.int .i64 o.kind, .int .i64 o.n, .int .u32 o.p.src, .int .u32 o.p.dst, .int .u16 o.p.port, .int .u16 o.p.seq, .int .u32 o.p.time, .int .u16 o.p.id, .int .u8 o.p.flags, .string (bs o.p.body), .string (bs o.s)]
structure Oq.ok (o : Oq) : Prop where
  kind : -9223372036854775808 ≤ o.kind ∧ o.kind ≤ 9223372036854775807
  n : -9223372036854775808 ≤ o.n ∧ o.n ≤ 9223372036854775807
  p : o.p.ok
  s : o.s.length ≤ maxLen

/-- what a call hands on -/
def Hands (Q : Bool → World → Prop) (e : Ending) (w : World) : Prop := ∃ v, e = .returned (.bool v) ∧ Q v w

set_option maxRecDepth 100000 in
set_option maxHeartbeats 2000000 in
theorem step_send (o : Oq) (wd : Nat) (w : World) (Q : Bool → World → Prop) (hk : o.kind = 1) (h : Calls Tryz.prog 14 #[.pointer (some ⟨wd, 0, none⟩), .agg o.p.cells] (w.alloc (.cells o.cells 45)) (Hands Q)) :
    Calls Tryz.prog 7 #[.pointer (some ⟨wd, 0, none⟩), .agg o.cells] w (Hands Q) := by
  have H := hide h
  clear h
  unfold Oq.cells
  rw [hk]
  go_enter Tryz.func7, Tryz.ntmps7
  go_wp2_with (go_at_call 14; refine Stop.out ?_)
  refine ⟨?_⟩
  have h := unhide H
  unfold Oq.cells at h
  rw [hk] at h
  refine Calls.mono h ?_
  rintro e w1 ⟨v, rfl, h1⟩
  have H1 := hide h1
  clear h1 h H
  go_wp2_with fail
  go_ret
  exact ⟨v, rfl, unhide H1⟩

set_option maxRecDepth 100000 in
set_option maxHeartbeats 2000000 in
theorem step_hear (o : Oq) (wd : Nat) (w : World) (Q : Bool → World → Prop) (hk : o.kind = 2) (h : Calls Tryz.prog 15 #[.pointer (some ⟨wd, 0, none⟩), .string (bs o.s)] (w.alloc (.cells o.cells 45)) (Hands Q)) :
    Calls Tryz.prog 7 #[.pointer (some ⟨wd, 0, none⟩), .agg o.cells] w (Hands Q) := by
  have H := hide h
  clear h
  unfold Oq.cells
  rw [hk]
  go_enter Tryz.func7, Tryz.ntmps7
  go_wp2_with (go_at_call 15; refine Stop.out ?_)
  refine ⟨?_⟩
  have h := unhide H
  unfold Oq.cells at h
  rw [hk] at h
  refine Calls.mono h ?_
  rintro e w1 ⟨v, rfl, h1⟩
  have H1 := hide h1
  clear h1 h H
  go_wp2_with fail
  go_ret
  exact ⟨v, rfl, unhide H1⟩

set_option maxRecDepth 100000 in
set_option maxHeartbeats 2000000 in
theorem step_sent (o : Oq) (wd : Nat) (w : World) (Q : Bool → World → Prop) (hk : o.kind = 4) (h : Calls Tryz.prog 16 #[.pointer (some ⟨wd, 0, none⟩), .bool true] (w.alloc (.cells o.cells 45)) (Hands Q)) :
    Calls Tryz.prog 7 #[.pointer (some ⟨wd, 0, none⟩), .agg o.cells] w (Hands Q) := by
  have H := hide h
  clear h
  unfold Oq.cells
  rw [hk]
  go_enter Tryz.func7, Tryz.ntmps7
  go_wp2_with (go_at_call 16; refine Stop.out ?_)
  refine ⟨?_⟩
  have h := unhide H
  unfold Oq.cells at h
  rw [hk] at h
  refine Calls.mono h ?_
  rintro e w1 ⟨v, rfl, h1⟩
  have H1 := hide h1
  clear h1 h H
  go_wp2_with fail
  go_ret
  exact ⟨v, rfl, unhide H1⟩

/-- a new sender's world -/
def SenderPost (w : World) (gB c k r : Nat) (e : Ending) (w' : World) : Prop :=
  ∃ wd gp gs ge gl, e = .returned (.tuple #[.pointer (some ⟨wd, 0, none⟩), .bool true]) ∧ w.heap.size ≤ wd ∧ w.heap.size ≤ gp ∧ w.heap.size ≤ gs ∧ w.heap.size ≤ ge ∧ w.heap.size ≤ gl ∧
    WAt w.heap.size w' wd gp gB (.pointer none) (.slice none 0 0) [] [] ∧ SAt w.heap.size w' gp gs ge gl (freshN c k r) (docFresh c k r) ∧ Below w.heap.size w w'

theorem docFresh_sts (w : World) (B c k r : Nat) : StsIn w B (docFresh c k r) := by
  intro i hi
  rw [docFresh_at]
  exact ⟨World.ownsRow_nil _ _ _ _, by decide⟩

end Go.Proofs.YtgpojbgjfibblabGreat.texts

namespace Go.Proofs.YtgpojbgjfibblabGreat.texts
open Go.RowKit
set_option linter.unusedVariables false
attribute [local go_sem ↓] Go.wp_at_zero Go.wp_at_succ

/-- a slice value reads as a script -/
structure OpsAt (w : World) (v : Value) (S : List Oq) (ao : Option Addr) (b off cap : Nat) : Prop where
  form : v = .slice ao S.length cap
  addr : 0 < S.length → ao = some ⟨b, off, none⟩
  cell : ∀ (i : Nat) (hi : i < S.length) (j : Nat), j < 11 → w.cell? ⟨b, off + i * 11 + j, none⟩ = (S[i]).cells[j]?
theorem OpsAt.lt {w : World} {v : Value} {S : List Oq} {ao : Option Addr} {b off cap : Nat} (h : OpsAt w v S ao b off cap) (hn : 0 < S.length) : b < w.heap.size := by
  have h1 := h.cell 0 hn 0 (by omega)
  by_cases h2 : b < w.heap.size
  · exact h2
  · simp [World.cell?, Array.getElem?_eq_none (Nat.le_of_not_lt h2), Oq.cells] at h1
theorem OpsAt.cells {w w1 : World} {v : Value} {S : List Oq} {ao : Option Addr} {b off cap : Nat} (h : OpsAt w v S ao b off cap) (hb : Below w.heap.size w w1) {i : Nat} (hi : i < S.length) {o : Oq} (ho : S[i] = o) :
    w1.cell? ⟨b, off + i * 11, none⟩ = some (.int .i64 o.kind) ∧ w1.cell? ⟨b, off + i * 11 + 1, none⟩ = some (.int .i64 o.n) ∧ w1.cell? ⟨b, off + i * 11 + 2, none⟩ = some (.int .u32 o.p.src) ∧ w1.cell? ⟨b, off + i * 11 + 3, none⟩ = some (.int .u32 o.p.dst) ∧ w1.cell? ⟨b, off + i * 11 + 4, none⟩ = some (.int .u16 o.p.port) ∧ w1.cell? ⟨b, off + i * 11 + 5, none⟩ = some (.int .u16 o.p.seq) ∧ w1.cell? ⟨b, off + i * 11 + 6, none⟩ = some (.int .u32 o.p.time) ∧ w1.cell? ⟨b, off + i * 11 + 7, none⟩ = some (.int .u16 o.p.id) ∧ w1.cell? ⟨b, off + i * 11 + 8, none⟩ = some (.int .u8 o.p.flags) ∧ w1.cell? ⟨b, off + i * 11 + 9, none⟩ = some (.string (bs o.p.body)) ∧ w1.cell? ⟨b, off + i * 11 + 10, none⟩ = some (.string (bs o.s)) := by
  have key : ∀ (j : Nat) (u : Value), j < 11 → o.cells[j]? = some u → w1.cell? ⟨b, off + i * 11 + j, none⟩ = some u := fun j u hj hu => keep_cell (by rw [h.cell i hi j hj, ho]; exact hu) hb
  exact ⟨key 0 _ (by omega) rfl, key 1 _ (by omega) rfl, key 2 _ (by omega) rfl, key 3 _ (by omega) rfl, key 4 _ (by omega) rfl, key 5 _ (by omega) rfl, key 6 _ (by omega) rfl, key 7 _ (by omega) rfl, key 8 _ (by omega) rfl, key 9 _ (by omega) rfl, key 10 _ (by omega) rfl⟩

/-- one of the two senders -/
def Half (B : Nat) (w : World) (gB t wd gp gs ge gl : Nat) (vs : Value) : Prop :=
  ∃ fs bk m d k, WAt B w wd gp gB (.pointer none) vs fs bk ∧ SAt B w gp gs ge gl m d ∧ Ends m d k ∧ d.sent ≤ t ∧ fs.length ≤ t
/-- both, and the book -/
def SendsIn (B : Nat) (w : World) (gB i wd1 wd2 : Nat) (wr : World) : Prop :=
  ∃ gp1 gs1 ge1 gl1 vs1 gp2 gs2 ge2 gl2 vs2 vF vM next K, Half B wr gB i wd1 gp1 gs1 ge1 gl1 vs1 ∧ Half B wr gB i wd2 gp2 gs2 ge2 gl2 vs2 ∧ wd1 ≠ wd2 ∧ gs1 ≠ gs2 ∧ ge1 ≠ ge2 ∧ gl1 ≠ gl2 ∧ (∀ g, vs1.ownBlock = some g → vs2.ownBlock ≠ some g)
    ∧ BkAt B wr gB vF vM (.slice none 0 0) (.slice none 0 0) next K ∧ FShorts K ∧ K.length ≤ 8 * i ∧ -(2 * (i : Int)) ≤ next ∧ next ≤ 0 ∧ Below B w wr
theorem Half.grew {B : Nat} {w w' : World} {gB t wd gp gs ge gl : Nat} {vs : Value} (h : Half B w gB t wd gp gs ge gl vs) (hb : Below w.heap.size w w') (t' : Nat) (ht : t ≤ t') : Half B w' gB t' wd gp gs ge gl vs := by
  obtain ⟨fs, bk, m, d, k, h1, h2, h3, h4, h5⟩ := h
  exact ⟨fs, bk, m, d, k, h1.grew hb, h2.grew hb, h3, by omega, by omega⟩
theorem SendsIn.low {B : Nat} {w wr : World} {gB i wd1 wd2 : Nat} (h : SendsIn B w gB i wd1 wd2 wr) : B ≤ wr.heap.size := by
  obtain ⟨gp1, gs1, ge1, gl1, vs1, gp2, gs2, ge2, gl2, vs2, vF, vM, next, K, h1, h2, n1, n2, n3, n4, n5, bk, fsh, kl, nl, nu, bel⟩ := h
  have := bk.low
  have := block_lt bk.blk
  omega
theorem SendsIn.grew {B : Nat} {w wr w' : World} {gB i wd1 wd2 : Nat} (h : SendsIn B w gB i wd1 wd2 wr) (hb : Below wr.heap.size wr w') {i' : Nat} (hi : i ≤ i') : SendsIn B w gB i' wd1 wd2 w' := by
  have hl := h.low
  obtain ⟨gp1, gs1, ge1, gl1, vs1, gp2, gs2, ge2, gl2, vs2, vF, vM, next, K, h1, h2, n1, n2, n3, n4, n5, bk, fsh, kl, nl, nu, bel⟩ := h
  exact ⟨gp1, gs1, ge1, gl1, vs1, gp2, gs2, ge2, gl2, vs2, vF, vM, next, K, h1.grew hb i' hi, h2.grew hb i' hi, n1, n2, n3, n4, n5, bk.grew hb, fsh, by omega, by omega, nu, bel.trans (hb.mono hl)⟩
theorem SendsIn.swap {B : Nat} {w wr : World} {gB i wd1 wd2 : Nat} (h : SendsIn B w gB i wd1 wd2 wr) : SendsIn B w gB i wd2 wd1 wr := by
  obtain ⟨gp1, gs1, ge1, gl1, vs1, gp2, gs2, ge2, gl2, vs2, vF, vM, next, K, h1, h2, n1, n2, n3, n4, n5, bk, fsh, kl, nl, nu, bel⟩ := h
  exact ⟨gp2, gs2, ge2, gl2, vs2, gp1, gs1, ge1, gl1, vs1, vF, vM, next, K, h2, h1, fun e => n1 e.symm, fun e => n2 e.symm, fun e => n3 e.symm, fun e => n4 e.symm, fun g e1 e2 => n5 g e2 e1, bk, fsh, kl, nl, nu, bel⟩
theorem only_low {S : Nat → Prop} {B : Nat} {w w' : World} (h : Only S w w') (hB : B ≤ w.heap.size) (hS : ∀ k, S k → B ≤ k) : Below B w w' :=
  ⟨h.os, h.tape, h.output, h.size, fun k hk => h.block k (by omega) (fun e => by have := hS k e; omega)⟩
/-- a send or a hear of the first -/
theorem SendsIn.sent {B : Nat} {w wr w' : World} {gB i wd1 wd2 gp1 gs1 ge1 gl1 gp2 gs2 ge2 gl2 : Nat} {vs1 vs2 vF vM : Value} {next : Int} {K : List (Value × Int)} {fs1 : List (List UInt8)} {bk1 : List UInt8} {m1 : Snd} {d1 : Doc}
    (hW : WAt B wr wd1 gp1 gB (.pointer none) vs1 fs1 bk1) (hS : SAt B wr gp1 gs1 ge1 gl1 m1 d1) (hd : d1.sent ≤ i) (hf : fs1.length ≤ i)
    (h2 : Half B wr gB i wd2 gp2 gs2 ge2 gl2 vs2) (n1 : wd1 ≠ wd2) (n2 : gs1 ≠ gs2) (n3 : ge1 ≠ ge2) (n4 : gl1 ≠ gl2) (n5 : ∀ g, vs1.ownBlock = some g → vs2.ownBlock ≠ some g)
    (bk : BkAt B wr gB vF vM (.slice none 0 0) (.slice none 0 0) next K) (fsh : FShorts K) (kl : K.length ≤ 8 * i) (nl : -(2 * (i : Int)) ≤ next) (nu : next ≤ 0) (bel : Below B w wr)
    (h : SentPost B wr wd1 gp1 gs1 ge1 gl1 gB (.pointer none) vs1 bk1 fs1 d1 w') : SendsIn B w gB (i + 1) wd1 wd2 w' := by
  obtain ⟨m', d', k', vs', fs', E', e1, e2, _, S', W', e4, o⟩ := h
  obtain ⟨fs2, bk2, m2, d2, k2, hW2, hS2, E2, c1, c2⟩ := h2
  have ty : ∀ k, sendS wd1 gs1 ge1 gl1 vs1 k → ∃ cs t fr, wr.heap[k]? = some (.cells cs t fr) ∧ t ∈ [63, 82, 94, 126, 9] := by
    rintro k (rfl | rfl | rfl | rfl | e)
    · exact ⟨_, _, _, hW.blk, by simp⟩
    · exact ⟨_, _, _, hS.snd, by simp⟩
    · exact ⟨_, _, _, hS.doc.head, by simp⟩
    · exact ⟨_, _, _, hS.doc.rows, by simp⟩
    · obtain ⟨cur, hc⟩ := own_ty hW.sent e
      exact ⟨_, _, _, hc, by simp⟩
  have oT := OnlyT.of_only o ty
  have lowS : ∀ k, sendS wd1 gs1 ge1 gl1 vs1 k → B ≤ k := by
    rintro k (rfl | rfl | rfl | rfl | e)
    · exact hW.lw
    · exact hS.ls
    · exact hS.le
    · exact hS.ll
    · exact (hW.sent.lt k e).1
  have hlow : B ≤ wr.heap.size := by have := bk.low; have := block_lt bk.blk; omega
  have S2 : SAt B w' gp2 gs2 ge2 gl2 m2 d2 := by
    refine hS2.rest o (fun k e => ?_) ?_ ?_ ?_
    · obtain ⟨cs, t, fr, a, b⟩ := ty k e
      refine ⟨cs, t, fr, a, fun e => ?_, fun e => ?_⟩ <;> (rw [e] at b; exact absurd b (by decide))
    · rintro (e | e | e | e | e)
      · exact apart_ty hS2.snd hW.blk (by decide) e
      · exact n2 e.symm
      · exact apart_ty hS2.snd hS.doc.head (by decide) e
      · exact apart_ty hS2.snd hS.doc.rows (by decide) e
      · obtain ⟨cur, hc⟩ := own_ty hW.sent e
        exact apart_ty hS2.snd hc (by decide) rfl
    · rintro (e | e | e | e | e)
      · exact apart_ty hS2.doc.head hW.blk (by decide) e
      · exact apart_ty hS2.doc.head hS.snd (by decide) e
      · exact n3 e.symm
      · exact apart_ty hS2.doc.head hS.doc.rows (by decide) e
      · obtain ⟨cur, hc⟩ := own_ty hW.sent e
        exact apart_ty hS2.doc.head hc (by decide) rfl
    · rintro (e | e | e | e | e)
      · exact apart_ty hS2.doc.rows hW.blk (by decide) e
      · exact apart_ty hS2.doc.rows hS.snd (by decide) e
      · exact apart_ty hS2.doc.rows hS.doc.head (by decide) e
      · exact n4 e.symm
      · obtain ⟨cur, hc⟩ := own_ty hW.sent e
        exact apart_ty hS2.doc.rows hc (by decide) rfl
  have W2 : WAt B w' wd2 gp2 gB (.pointer none) vs2 fs2 bk2 := by
    refine hW2.rest o ?_ (fun g hg => ?_)
    · rintro (e | e | e | e | e)
      · exact n1 e.symm
      · exact apart_ty hW2.blk hS.snd (by decide) e
      · exact apart_ty hW2.blk hS.doc.head (by decide) e
      · exact apart_ty hW2.blk hS.doc.rows (by decide) e
      · obtain ⟨cur, hc⟩ := own_ty hW.sent e
        exact apart_ty hW2.blk hc (by decide) rfl
    · obtain ⟨cu2, hc2⟩ := own_ty hW2.sent hg
      rintro (e | e | e | e | e)
      · exact apart_ty hc2 hW.blk (by decide) e
      · exact apart_ty hc2 hS.snd (by decide) e
      · exact apart_ty hc2 hS.doc.head (by decide) e
      · exact apart_ty hc2 hS.doc.rows (by decide) e
      · exact n5 g e hg
  have n5' : ∀ g, vs'.ownBlock = some g → vs2.ownBlock ≠ some g := by
    intro g a b
    rcases e4 with e | ⟨g', e, hg'⟩
    · rw [e] at a; exact n5 g a b
    · rw [e] at a
      simp at a
      obtain ⟨cu2, hc2⟩ := own_ty hW2.sent b
      have := block_lt hc2
      omega
  exact ⟨gp1, gs1, ge1, gl1, vs', gp2, gs2, ge2, gl2, vs2, vF, vM, next, K, ⟨fs', bk1, m', d', k', W', S', E', by omega, by omega⟩, ⟨fs2, bk2, m2, d2, k2, W2, S2, E2, by omega, by omega⟩, n1, n2, n3, n4, n5',
    bk.only oT (by decide) (by decide) (by decide) (by decide), fsh, by omega, by omega, nu, bel.trans (only_low o hlow lowS)⟩
/-- what is told goes into the book -/
theorem SendsIn.told {B : Nat} {w wr w' : World} {gB i wd1 wd2 gp1 gs1 ge1 gl1 gp2 gs2 ge2 gl2 : Nat} {vs1 vs2 : Value} {next : Int} {K : List (Value × Int)}
    (h1 : Half B wr gB i wd1 gp1 gs1 ge1 gl1 vs1) (h2 : Half B wr gB i wd2 gp2 gs2 ge2 gl2 vs2) (n1 : wd1 ≠ wd2) (n2 : gs1 ≠ gs2) (n3 : ge1 ≠ ge2) (n4 : gl1 ≠ gl2) (n5 : ∀ g, vs1.ownBlock = some g → vs2.ownBlock ≠ some g)
    (kl : K.length ≤ 8 * i) (nl : -(2 * (i : Int)) ≤ next) (nu : next ≤ 0) (bel : Below B w wr)
    (h : ToldPost B wr gB (.slice none 0 0) (.slice none 0 0) next K w') : SendsIn B w gB (i + 1) wd1 wd2 w' := by
  obtain ⟨vF', vM', K', bk', kl', fs', b', o'⟩ := h
  have half : ∀ {wd gp gs ge gl : Nat} {vs : Value}, Half B wr gB i wd gp gs ge gl vs → Half B w' gB (i + 1) wd gp gs ge gl vs := by
    rintro wd gp gs ge gl vs ⟨fs, bk, m, d, k, a1, a2, a3, a4, a5⟩
    exact ⟨fs, bk, m, d, k, a1.onlyT o' (by decide) (by decide), a2.onlyT o' (by decide) (by decide) (by decide) (by decide) (by decide), a3, by omega, by omega⟩
  exact ⟨gp1, gs1, ge1, gl1, vs1, gp2, gs2, ge2, gl2, vs2, vF', vM', next - 2, K', half h1, half h2, n1, n2, n3, n4, n5, bk', fs', by omega, by omega, by omega, bel.trans b'⟩

/-- the next step of the script -/
theorem sends_step (B : Nat) (w wr : World) (gB i wd1 wd2 : Nat) (o : Oq) (h : SendsIn B w gB i wd1 wd2 wr) (ho : o.ok) (hi : i ≤ 1048576) (hk : o.kind = 1 ∨ o.kind = 2 ∨ o.kind = 4) :
    Calls Tryz.prog 7 #[.pointer (some ⟨wd1, 0, none⟩), .agg o.cells] wr (Hands fun v w' => v = true ∧ SendsIn B w gB (i + 1) wd1 wd2 w') := by
  have hb : Below wr.heap.size wr (wr.alloc (.cells o.cells 45)) := (Below.refl _ _).alloc (Nat.le_refl _) _
  have h' := h.grew hb (Nat.le_refl i)
  obtain ⟨gp1, gs1, ge1, gl1, vs1, gp2, gs2, ge2, gl2, vs2, vF, vM, next, K, h1, h2, n1, n2, n3, n4, n5, bk, fsh, kl, nl, nu, bel⟩ := h'
  have h1' := h1
  obtain ⟨fs1, bk1, m1, d1, k1, hW, hS, hE, hd, hf⟩ := h1
  rcases hk with hk | hk | hk
  · refine step_send o wd1 wr _ hk ?_
    by_cases hbo : o.p.body.length ≤ 100
    · refine (wsend_short B wd1 gp1 gs1 ge1 gl1 gB _ vs1 fs1 bk1 m1 d1 k1 o.p _ hW hS hE ho.p hbo (by omega) (by omega)).mono ?_
      rintro e w2 ⟨rfl, hp⟩
      exact ⟨true, rfl, rfl, SendsIn.sent hW hS hd hf h2 n1 n2 n3 n4 n5 bk fsh kl nl nu bel hp⟩
    · refine (wsend_long B wd1 gp1 gs1 ge1 gl1 gB _ vs1 fs1 bk1 m1 d1 k1 o.p _ hW hS hE (by omega)).mono ?_
      rintro e w2 ⟨rfl, hp⟩
      exact ⟨true, rfl, rfl, SendsIn.sent hW hS hd hf h2 n1 n2 n3 n4 n5 bk fsh kl nl nu bel hp⟩
  · refine step_hear o wd1 wr _ hk ?_
    refine (whear_any B wd1 gp1 gs1 ge1 gl1 gB _ vs1 fs1 bk1 m1 d1 k1 o.s _ hW hS hE ho.s).mono ?_
    rintro e w2 ⟨rfl, hp⟩
    exact ⟨true, rfl, rfl, SendsIn.sent hW hS hd hf h2 n1 n2 n3 n4 n5 bk fsh kl nl nu bel hp⟩
  · refine step_sent o wd1 wr _ hk ?_
    refine (wtold_snd B wd1 gp1 gs1 ge1 gl1 gB _ vs1 fs1 bk1 m1 d1 k1 vF vM _ _ next K _ hW hS hE (by omega) bk fsh (by omega) (by omega) (by omega)).mono ?_
    rintro e w2 ⟨rfl, hp⟩
    exact ⟨true, rfl, rfl, SendsIn.told h1' h2 n1 n2 n3 n4 n5 kl nl nu bel hp⟩
/-- what the first tells at the end -/
theorem sends_told (B : Nat) (w wr : World) (gB i wd1 wd2 : Nat) (h : SendsIn B w gB i wd1 wd2 wr) (hi : i ≤ 1048580) :
    Calls Tryz.prog 16 #[.pointer (some ⟨wd1, 0, none⟩), .bool true] wr fun e w' => e = .returned (.bool true) ∧ SendsIn B w gB (i + 1) wd1 wd2 w' := by
  obtain ⟨gp1, gs1, ge1, gl1, vs1, gp2, gs2, ge2, gl2, vs2, vF, vM, next, K, h1, h2, n1, n2, n3, n4, n5, bk, fsh, kl, nl, nu, bel⟩ := h
  have h1' := h1
  obtain ⟨fs1, bk1, m1, d1, k1, hW, hS, hE, hd, hf⟩ := h1
  refine (wtold_snd B wd1 gp1 gs1 ge1 gl1 gB _ vs1 fs1 bk1 m1 d1 k1 vF vM _ _ next K _ hW hS hE (by omega) bk fsh (by omega) (by omega) (by omega)).mono ?_
  rintro e w2 ⟨rfl, hp⟩
  exact ⟨rfl, SendsIn.told h1' h2 n1 n2 n3 n4 n5 kl nl nu bel hp⟩
/-- the book is looked at -/
theorem sends_looks (B : Nat) (w wr : World) (gB i wd1 wd2 : Nat) (h : SendsIn B w gB i wd1 wd2 wr) (hi : i ≤ 1048590) :
    Calls Tryz.prog 8 #[.pointer (some ⟨gB, 0, none⟩)] wr fun e w' => e = .returned (.bool true) ∧ SendsIn B w gB i wd1 wd2 w' := by
  have h' := h
  obtain ⟨gp1, gs1, ge1, gl1, vs1, gp2, gs2, ge2, gl2, vs2, vF, vM, next, K, h1, h2, n1, n2, n3, n4, n5, bk, fsh, kl, nl, nu, bel⟩ := h
  refine (flooks_any B _ gB vF vM _ _ next K [] bk fsh (by omega) (TxAt.nil B _) (by simp)).mono ?_
  rintro e w2 ⟨rfl, hb⟩
  exact ⟨rfl, h'.grew hb (Nat.le_refl i)⟩

theorem WAt.dn {B B' : Nat} {w : World} {wd gp gB : Nat} {rv vs : Value} {fs : List (List UInt8)} {bk : List UInt8} (h : WAt B w wd gp gB rv vs fs bk) (hb : B' ≤ B) : WAt B' w wd gp gB rv vs fs bk := ⟨h.blk, own_dn h.sent hb, Nat.le_trans hb h.lw⟩
theorem SAt.dn {B B' : Nat} {w : World} {gp gs ge gl : Nat} {m : Snd} {d : Doc} (h : SAt B w gp gs ge gl m d) (hb : B' ≤ B) : SAt B' w gp gs ge gl m d :=
  ⟨h.pair, h.snd, h.doc, fun i hi => ⟨own_dn (h.sts i hi).1 hb, (h.sts i hi).2⟩, Nat.le_trans hb h.ls, Nat.le_trans hb h.le, Nat.le_trans hb h.ll⟩
theorem bk_new (B : Nat) (w : World) (h : B ≤ w.heap.size) : BkAt B (w.alloc (.cells #[.slice none 0 0, .slice none 0 0, .slice none 0 0, .slice none 0 0, .int .i64 0] 33)) w.heap.size (.slice none 0 0) (.slice none 0 0) (.slice none 0 0) (.slice none 0 0) 0 [] :=
  ⟨heap_alloc_new w _, World.ownsRow_nil _ _ _ _, World.ownsRow_nil _ _ _ _, h, fun e he => by simp at he⟩

end Go.Proofs.YtgpojbgjfibblabGreat.texts
