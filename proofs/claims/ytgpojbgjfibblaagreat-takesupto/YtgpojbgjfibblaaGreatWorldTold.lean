/-
  The walks of a world's hear and told, of step and of sender (package gistlaw), on the sender's side.
  Conditions stand in each theorem.
-/
import Derived.Test.YtgpojbgjfibblaaGreatWorldWalk
namespace Go.Proofs.YtgpojbgjfibblaaGreat.texts
open Go.RowKit
set_option linter.unusedVariables false
attribute [local go_sem ↓] Go.wp_at_zero Go.wp_at_succ
attribute [local go_sem] bs_size

set_option maxRecDepth 100000 in
set_option maxHeartbeats 4000000 in
theorem whear_any (B : Nat) (wd gp gs ge gl gB : Nat) (rv vs : Value) (fs : List (List UInt8)) (bk : List UInt8) (m : Snd) (d : Doc) (k : Nat) (l : List UInt8) (w : World) (hW : WAt B w wd gp gB rv vs fs bk) (hS : SAt B w gp gs ge gl m d) (hE : Ends m d k) (hl : l.length ≤ maxLen) :
    Calls Tryz.prog 15 #[.pointer (some ⟨wd, 0, none⟩), .string (bs l)] w fun e w' => e = .returned (.bool true) ∧ SentPost B w wd gp gs ge gl gB rv vs bk fs d w' := by
  have HW := hide hW
  have HS := hide hS
  have HE := hide hE
  have HL := hide hl
  obtain ⟨hee, E2⟩ := hE.hear l
  have HE2 := hide E2
  obtain ⟨N, hN⟩ : ∃ N, N = hearE m l := ⟨_, rfl⟩
  have HN := hide hN
  have HN2 := hide (hN.trans hee)
  have c0 : w.cell? ⟨wd, 0, none⟩ = some (.pointer (some ⟨gp, 0, none⟩)) := block_cell hW.blk 0
  have c1 : w.cell? ⟨gp, 0, none⟩ = some (.pointer (some ⟨gs, 0, none⟩)) := block_cell hS.pair 0
  have hk4 : d.keep ≤ 4 := by rw [hE.rel.keep]; exact hE.ok.k4
  have hne : ge ≠ gl := apart_ty hS.doc.head hS.doc.rows (by decide)
  clear hW hS hE hl hee E2 hN
  go_enter Tryz.func15, Tryz.ntmps15
  go_wp2_with fail
  go_at_call 29
  refine (ghear_any m gs l _ (unhide HE).ok (unhide HS).snd (unhide HL)).mono ?_
  rintro e w1 ⟨rfl, h1, h2⟩
  rw [← unhide HN]
  have oT : OnlyT [83] w w1 := OnlyT.of_only h2 (fun q e => by subst e; exact ⟨_, _, _, (unhide HS).snd, by simp⟩)
  have S1 : SAt B w1 gp gs ge gl (hearM m l) d := ⟨oT.keep (unhide HS).pair (by decide), h1, ⟨oT.keep (unhide HS).doc.head (by decide), oT.keep (unhide HS).doc.rows (by decide), (unhide HS).doc.sl⟩, (unhide HS).sts.same (fun q cs hq => oT.block q cs _ _ hq (by decide)), (unhide HS).ls, (unhide HS).le, (unhide HS).ll⟩
  have W1 := (unhide HW).onlyT oT (by decide) (by decide)
  have c0 : w1.cell? ⟨wd, 0, none⟩ = some (.pointer (some ⟨gp, 0, none⟩)) := block_cell W1.blk 0
  have c2 : w1.cell? ⟨gp, 2, none⟩ = some (.pointer (some ⟨ge, 0, none⟩)) := block_cell S1.pair 2
  have HS1 := hide S1
  have HW1 := hide W1
  have HO1 := hide h2
  clear h1 h2 oT S1 W1 c1
  go_wp2_with fail
  go_at_call 30
  refine (dhear_any d ge gl l _ (unhide HS1).doc hne (unhide HL) hk4).mono ?_
  rintro e w2 ⟨rfl, h1, h2⟩
  rw [← unhide HN2]
  have oT : OnlyT [109] w1 w2 := OnlyT.of_only h2 (fun q e => by subst e; exact ⟨_, _, _, (unhide HS1).doc.rows, by simp⟩)
  have st2 : StsIn w2 B (docHearM d l) := by
    intro i hi
    obtain ⟨e1, e2, e3, _⟩ := docHearM_at d l i
    rw [e2, e3]
    have := (unhide HS1).sts i (by omega)
    exact ⟨oT.own this.1 (by decide), this.2⟩
  have S2 : SAt B w2 gp gs ge gl (hearM m l) (docHearM d l) := ⟨oT.keep (unhide HS1).pair (by decide), oT.keep (unhide HS1).snd (by decide), h1, st2, (unhide HS1).ls, (unhide HS1).le, (unhide HS1).ll⟩
  have W2 := (unhide HW1).onlyT oT (by decide) (by decide)
  have o2 : Only (sendS wd gs ge gl vs) w w2 := ((unhide HO1).mono (fun q e => Or.inr (Or.inl e))).trans (h2.mono (fun q e => Or.inr (Or.inr (Or.inr (Or.inl e)))))
  have fin := hide (show SentPost B w wd gp gs ge gl gB rv vs bk fs d w2 from ⟨_, _, k, vs, fs, unhide HE2, by rw [(docHearM_at d l 0).2.2.2]; omega, by omega, fun h => h, S2, W2, Or.inl rfl, o2⟩)
  clear h1 h2 oT st2 S2 W2 o2 c0 c2
  go_wp2_with (go_at_call 13; refine (bits.num_any _ _).mono ?_; rintro e w5 ⟨rfl, h5⟩; have h5 := h5.symm; subst h5)
  go_ret
  exact ⟨rfl, unhide fin⟩

/-- the book has grown by what was told -/
def ToldPost (B : Nat) (w : World) (gB : Nat) (vT vN : Value) (next : Int) (K : List (Value × Int)) (w' : World) : Prop :=
  ∃ vF' vM' K', BkAt B w' gB vF' vM' vT vN (next - 2) K' ∧ K'.length = K.length + 8 ∧ FShorts K' ∧ Below B w w' ∧ OnlyT ownsT w w'

/-- lists that two ends told are taken into the book -/
theorem bk_old {B : Nat} {w : World} {gB : Nat} {vF vM vT vN : Value} {next : Int} {K : List (Value × Int)} (h : BkAt B w gB vF vM vT vN next K) {e : Value × Int} (he : e ∈ K) {g : Nat} (hg : e.1.ownBlock = some g) : g < w.heap.size := by
  obtain ⟨cur, hc⟩ := (h.kept e he).ty hg
  exact block_lt hc

set_option maxRecDepth 100000 in
set_option maxHeartbeats 8000000 in
theorem wtold_snd (B : Nat) (wd gp gs ge gl gB : Nat) (rv vs : Value) (fs : List (List UInt8)) (bk : List UInt8) (m : Snd) (d : Doc) (k : Nat) (vF vM vT vN : Value) (next : Int) (K : List (Value × Int)) (w : World) (hW : WAt B w wd gp gB rv vs fs bk) (hS : SAt B w gp gs ge gl m d) (hE : Ends m d k) (ht : d.sent + 1 < 4611686018427387904)
    (hK : BkAt B w gB vF vM vT vN next K) (hFS : FShorts K) (hlen : K.length ≤ 268435456) (h0 : -268435456 ≤ next) (h1 : next ≤ 268435456) :
    Calls Tryz.prog 9 #[.pointer (some ⟨wd, 0, none⟩), .bool true] w fun e w' => e = .returned (.bool true) ∧ ToldPost B w gB vT vN next K w' := by
  have HW := hide hW
  have HS := hide hS
  have HE := hide hE
  have HK := hide hK
  have HFS := hide hFS
  have hBw : B ≤ w.heap.size := by have := block_lt hK.blk; have := hK.low; omega
  have hc8 := hE.ok.c8
  obtain ⟨f1, f2⟩ := rel_flows hE.ok hE.fit hE.rel
  have hcl : d.cs.length = d.cids := by rw [hE.rel.len, hE.rel.cids]
  rw [← hcl] at f1 f2
  have F1 := hide f1
  have F2 := hide f2
  have c0 : w.cell? ⟨wd, 0, none⟩ = some (.pointer (some ⟨gp, 0, none⟩)) := block_cell hW.blk 0
  have c1 : w.cell? ⟨gp, 0, none⟩ = some (.pointer (some ⟨gs, 0, none⟩)) := block_cell hS.pair 0
  have c2 : w.cell? ⟨gp, 2, none⟩ = some (.pointer (some ⟨ge, 0, none⟩)) := block_cell hS.pair 2
  have c4 : w.cell? ⟨wd, 4, none⟩ = some (.pointer (some ⟨gB, 0, none⟩)) := block_cell hW.blk 4
  obtain ⟨hrows, hrl⟩ := flows_rows m 8
  have hcn := countK_le m 8
  obtain ⟨C, hC⟩ : ∃ C, C = countK m 8 := ⟨_, rfl⟩
  obtain ⟨X, hX⟩ : ∃ X, X = flowsK m 8 := ⟨_, rfl⟩
  rw [← hC] at hrows hcn
  rw [← hX] at hrows
  have HR := hide hrows
  have HC := hide hC
  have HX := hide hX
  have C0 := hide c0
  have C1 := hide c1
  have C2 := hide c2
  have C4 := hide c4
  have HD8 := hide (show d.cs.length ≤ 8 by rw [hE.rel.len]; exact hc8)
  clear hW hS hE hK hFS f1 f2 hcl hrows hrl hC hX
  go_enter Tryz.func9, Tryz.ntmps9
  go_wp2_with fail
  go_at_call 19
  refine (gflows_any m gs _ (unhide HE).ok (unhide HS).snd).mono ?_
  rintro e w1 ⟨l, rfl, o1, b1⟩
  rw [← unhide HC, ← unhide HX] at o1
  have HO1 := hide o1
  have HB1 := hide b1
  have c0 := keep_cell (unhide C0) b1
  have c1 := keep_cell (unhide C1) b1
  clear o1 b1
  go_wp2_with fail
  go_at_call 19
  refine (gflows_any m gs _ (unhide HE).ok ((unhide HS).grew (unhide HB1)).snd).mono ?_
  rintro e w2 ⟨q, rfl, o2, b2⟩
  rw [← unhide HC, ← unhide HX] at o2
  have HO2 := hide o2
  have HO1' := hide (own_same (unhide HO1) (fun g hg => by obtain ⟨cur, hc⟩ := own_ty (unhide HO1) hg; exact b2.block g (block_lt hc)))
  have HQ := hide (fun g hg g' hg' => by
    have h1 := ((unhide HO1).lt g hg).2
    have h2 := (o2.lt g' hg').1
    omega : ∀ g, l.ownBlock = some g → ∀ g', q.ownBlock = some g' → g ≠ g')
  have HB2 := hide (grew_call (unhide HB1) b2)
  have hz1 := (unhide HB1).size
  have c0 := keep_cell (unhide C0) (unhide HB2)
  have c2 := keep_cell (unhide C2) (unhide HB2)
  clear o2 b2 c1 HO1 HB1
  go_wp2_with fail
  go_at_call 20
  refine (dflows_any d ge gl _ ((unhide HS).grew (unhide HB2)).doc (fun i hi => StsAt.of_own (((unhide HS).grew (unhide HB2)).sts i hi).1 (by have := (((unhide HS).grew (unhide HB2)).sts i hi).2; omega)) (fun i hi => by have := (unhide HE).well (unhide HS).sts (unhide HS).doc ht i hi; exact ⟨this.turn, this.sts, by have := this.sent; omega⟩) (unhide HD8)).mono ?_
  rintro e w3 ⟨r, rfl, o3, b3⟩
  rw [unhide F1, unhide F2, ← unhide HC, ← unhide HX] at o3
  have HO3 := hide o3
  have HO1 := hide (own_same (unhide HO1') (fun g hg => by obtain ⟨cur, hc⟩ := own_ty (unhide HO1') hg; exact b3.block g (block_lt hc)))
  have HO2' := hide (own_same (unhide HO2) (fun g hg => by obtain ⟨cur, hc⟩ := own_ty (unhide HO2) hg; exact b3.block g (block_lt hc)))
  have HB3 := hide (grew_call (unhide HB2) b3)
  obtain ⟨al, cl, hl⟩ := own_sl (unhide HO1)
  obtain ⟨aq, cq, hq⟩ := own_sl (unhide HO2')
  obtain ⟨ar, cr, hr⟩ := own_sl o3
  have Hl := hide hl
  have Hq := hide hq
  clear o3 b3 c0 c2 HO1' HO2 HB2 hl hq hr
  go_wp2_with fail
  go_at_call 22
  refine (sameFlows_any _ l r C _ _ X (unhide HO1) (unhide HO3) (unhide HR) (by omega)).mono ?_
  rintro e w4 ⟨rfl, b4⟩
  have HB4 := hide b4
  clear b4
  go_wp2_with fail
  go_at_call 22
  refine (sameFlows_any _ q r C _ _ X (own_same (unhide HO2') (fun g hg => by obtain ⟨cur, hc⟩ := own_ty (unhide HO2') hg; exact (unhide HB4).block g (block_lt hc))) (own_same (unhide HO3) (fun g hg => by obtain ⟨cur, hc⟩ := own_ty (unhide HO3) hg; exact (unhide HB4).block g (block_lt hc))) (unhide HR) (by omega)).mono ?_
  rintro e w5 ⟨rfl, b5⟩
  have HB45 := hide (grew_call (unhide HB4) b5)
  have HB5 := hide (grew_call (unhide HB3) (unhide HB45))
  have L5 := hide (own_dn (own_same (unhide HO1) (fun g hg => by obtain ⟨cur, hc⟩ := own_ty (unhide HO1) hg; exact (unhide HB45).block g (block_lt hc))) hBw)
  have Q5 := hide (own_dn (own_same (unhide HO2') (fun g hg => by obtain ⟨cur, hc⟩ := own_ty (unhide HO2') hg; exact (unhide HB45).block g (block_lt hc))) (Nat.le_trans hBw hz1))
  have lnew := hide (fun g hg => ((unhide HO1).lt g hg).1 : ∀ g, l.ownBlock = some g → w.heap.size ≤ g)
  have qnew := hide (fun g hg => Nat.le_trans hz1 ((unhide HO2').lt g hg).1 : ∀ g, q.ownBlock = some g → w.heap.size ≤ g)
  have c4 := keep_cell (unhide C4) (unhide HB5)
  clear b5 HO1 HO2' HO3 HB3 HB4 HB45
  go_wp2_with fail
  go_at_call 23
  refine (fowns_any B _ gB vF vM vT vN next K l C X ((unhide HK).grew (unhide HB5)) (by omega) (by omega) (by omega) (unhide L5) (by omega) (fun e he g hg h2 => by have h3 := unhide lnew g hg; have h4 := bk_old (unhide HK) he h2; omega)).mono ?_
  rintro e w6 ⟨rfl, vF6, vM6, K6, k6, n6, s6, nw6, b6, t6⟩
  have HK6 := hide k6
  have HS6 := hide (s6 (unhide HFS))
  have HNW := hide nw6
  have HB6 := hide b6
  have HT6 := hide t6
  have W6 := ((unhide HW).grew (unhide HB5)).onlyT t6.onlyT (by decide) (by decide)
  have c4 : w6.cell? ⟨wd, 4, none⟩ = some (.pointer (some ⟨gB, 0, none⟩)) := block_cell W6.blk 4
  have Q6 := hide (own_same (unhide Q5) (fun g hg => by
    obtain ⟨cur, hc⟩ := own_ty (unhide Q5) hg
    exact t6.flow g cur _ hc (fun e => unhide HQ g e g hg rfl)))
  have QK := hide (fun e he g hg h2 => by
    obtain ⟨cur, hc⟩ := own_ty (unhide Q5) hg
    have hlt := block_lt hc
    rcases nw6 e he with h3 | h3 | h3
    · have h4 := bk_old (unhide HK) h3 h2
      have h5 := unhide qnew g hg
      omega
    · rw [h2] at h3
      exact unhide HQ g h3.symm g hg rfl
    · have := h3 g h2
      omega : ∀ e ∈ K6, ∀ g, q.ownBlock = some g → e.1.ownBlock ≠ some g)
  clear k6 s6 nw6 b6 t6 W6 L5 Q5 HNW HQ
  go_wp2_with fail
  go_at_call 23
  refine (fowns_any B _ gB vF6 vM6 vT vN (next - 1) K6 q C X (unhide HK6) (by omega) (by omega) (by omega) (unhide Q6) (by omega) (unhide QK)).mono ?_
  rintro e w7 ⟨rfl, vF7, vM7, K7, k7, n7, s7, nw7, b7, t7⟩
  have fin := hide (show ToldPost B w gB vT vN next K w7 from ⟨vF7, vM7, K7, by rw [show next - 2 = next - 1 - 1 by omega]; exact k7, by omega, s7 (unhide HS6), ((unhide HB5).mono hBw).trans ((unhide HB6).trans b7), (OnlyT.of_below (unhide HB5)).trans ((unhide HT6).onlyT.trans t7.onlyT)⟩)
  clear k7 n7 s7 nw7 b7 t7 Q6 QK HK6 HS6 HB6 HT6
  go_wp2
  go_ret
  exact ⟨rfl, unhide fin⟩

end Go.Proofs.YtgpojbgjfibblaaGreat.texts
