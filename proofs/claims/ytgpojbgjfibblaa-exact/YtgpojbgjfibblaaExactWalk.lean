/-
  The walk of Exact (gistkeep).
  Conditions stand in each theorem.
-/
import Derived.Test.YtgpojbgjfibblaaPart40
namespace Go.Proofs.Ytgpojbgjfibblaa.texts
open Go.RowKit
set_option linter.unusedVariables false
attribute [local go_sem ↓] Go.wp_at_zero Go.wp_at_succ

/-- a line's memory behind a call that turns its own blocks alone -/
theorem LinAt.alloc {w : World} {b : Nat} {m : Ln} {x : Snd} {y : Rcv} (h : LinAt w b m x y) (o : Obj) : LinAt (w.alloc o) b m x y := ⟨block_alloc h.ln o, block_alloc h.snd o, block_alloc h.rcv o, h.bs, h.br, h.sr⟩
theorem LinAt.drew {w : World} {b : Nat} {m : Ln} {x : Snd} {y : Rcv} (h : LinAt w b m x y) : LinAt w.drew b m x y := ⟨h.ln, h.snd, h.rcv, h.bs, h.br, h.sr⟩
set_option maxRecDepth 100000 in
set_option maxHeartbeats 4000000 in
theorem exact_any (a k r : Int) (W : World) (S : List Sp) (ao : Option Addr) (sb off cap : Nat) (ha : Raw a) (hk : Raw k) (hr : Raw r) (hS : StepsAt W (.slice ao S.length cap) S ao sb off cap) (hok : ∀ i, i < S.length → (S.getD i Sp.zero).ok) (hl : S.length ≤ maxLen) :
    Calls Try.prog 10 #[.agg #[.int .i64 a, .int .i64 k, .int .i64 r], .slice ao S.length cap] W fun e w' => e = .returned (.bool true) ∧ Below W.heap.size W w' := by
  have hC1 := bits.pk_bd a 8 (by decide)
  have hK1 := bits.pk_bd k 4 (by decide)
  have hR1 := bits.pk_bd r 99 (by decide)
  obtain ⟨C, hC⟩ : ∃ C : Nat, 1 + bits.pk a 8 = (C : Int) := ⟨(1 + bits.pk a 8).toNat, by omega⟩
  obtain ⟨K, hK⟩ : ∃ K : Nat, 1 + bits.pk k 4 = (K : Int) := ⟨(1 + bits.pk k 4).toNat, by omega⟩
  obtain ⟨R, hR⟩ : ∃ R : Nat, 2 + bits.pk r 99 = (R : Int) := ⟨(2 + bits.pk r 99).toNat, by omega⟩
  have c1 : 1 ≤ C := by omega
  have c2 : C ≤ 8 := by omega
  have k1 : 1 ≤ K := by omega
  have k2 : K ≤ 4 := by omega
  have r1 : 2 ≤ R := by omega
  have r2 : R ≤ 100 := by omega
  have XB := hide (show ∀ w : World, _ from fun w => begun_any a k r w ha hk hr C K R hC hK hR)
  have hll : (S.length : Int) ≤ 9223372036854775807 := by unfold maxLen at hl; omega
  clear hC1 hK1 hR1 hC hK hR ha hk hr
  have HS := hide hS
  have HO := hide hok
  have HW := hide (show Below W.heap.size W (W.alloc (.cells #[.int .i64 a, .int .i64 k, .int .i64 r] 81)) from (Below.refl _ _).alloc (Nat.le_refl _) _)
  clear hS hok
  go_enter Try.func10, Try.ntmps10
  go_wp2_with (first
    | (go_at_call 38; refine (unhide XB _).mono ?_; rintro e w1 ⟨b, s, y, rfl, hb0, hs0, hy0, hat, hbel⟩; have hb : W.heap.size ≤ b := Nat.le_trans (by simp) hb0; have hs : W.heap.size ≤ s := Nat.le_trans (by simp) hs0; have hy : W.heap.size ≤ y := Nat.le_trans (by simp) hy0; clear hb0 hs0 hy0; have HB := hide (show Below W.heap.size W w1 from grew_call (unhide HW) hbel); have HA := hide hat; clear hat hbel))
  obtain ⟨lin0, both0⟩ := first_lin s y c1 c2 k1 k2 r1 r2
  have HLin := hide lin0
  have HBoth := hide both0
  clear lin0 both0
  have hm0 : (firstL C K R s y).s = s := rfl
  have hm1 : (firstL C K R s y).r = y := rfl
  go_loopw [7] (fun i wr => ∃ (j : Nat) (m : Ln) (X : Snd) (Y : Rcv), j ≤ S.length ∧ i = .int .i64 j ∧ m.s = s ∧ m.r = y ∧ Lin m X Y ∧ Both X Y m.lost ∧ LinAt wr b m X Y ∧ Below W.heap.size W wr) (fun i _ => S.length - (intOf i).toNat)
  case atStart => exact ⟨0, _, _, _, by omega, rfl, rfl, rfl, unhide HLin, unhide HBoth, unhide HA, unhide HB⟩
  case round =>
    obtain ⟨j, m, X, Y, hj, rfl, hms, hmr, hlin, hboth, hat, hbel⟩ := hrel
    clear HLin HBoth HA HB
    by_cases hlt : j < S.length
    · obtain ⟨o, ho⟩ : ∃ o, S.getD j Sp.zero = o := ⟨_, rfl⟩
      have hoo : o.ok := ho ▸ unhide HO j hlt
      obtain rfl : ao = some ⟨sb, off, none⟩ := (unhide HS).addr (by omega)
      have hsbW := (unhide HS).lt (by omega)
      obtain ⟨s0, s1, s2, s3, s4, s5, s6, s7, s8⟩ := step_cells (unhide HS) hbel hlt ho
      obtain ⟨hpo, hpb⟩ := packetK_ok hlin.mo hoo
      obtain ⟨P, hP⟩ : ∃ P, P = packetK m o := ⟨_, rfl⟩
      rw [← hP] at hpo hpb
      obtain ⟨m1, hm1⟩ : ∃ m1, m1 = m.setLast (flowN o) P := ⟨_, rfl⟩
      have lin1 : Lin m1 X Y := by rw [hm1]; exact hlin.packet _ hpo
      have e1s : m1.s = s := by rw [hm1]; exact hms
      have e1r : m1.r = y := by rw [hm1]; exact hmr
      have e1l : m1.lost = m.lost := by rw [hm1]; rfl
      have XP := hide (show ∀ w : World, LnAt w b m → Calls Try.prog 39 #[.pointer (some ⟨b, 0, none⟩), .agg o.cells] w fun e w' => e = .returned (.agg P.cells) ∧ LnAt w' b m1 ∧ Only (· = b) w w' by
        intro w h; have := kpacket_any m b o w hlin.mo h hoo; rw [← hP, ← hm1] at this; exact this)
      have hDc := lin1.choose P
      have hD8 := chooseN_lt lin1.xo P.src P.dst P.port
      obtain ⟨t1, t2, t3, _, both2⟩ := both_comes lin1.xo lin1.yo hlin.mo.lost hboth hpo hpb (by rw [lin1.yc]; exact hDc)
      have bothl := both_lost lin1.xo hlin.mo.lost hboth P
      have hfs := frame_short lin1.xo hpb
      have lin2 := lin1.send hpo
      have XS0 := fun (w : World) (h1 : LnAt w b m1) (h2 : SndAt w m1.s X) (h3 : b ≠ m1.s) => ksend_any m1 b X P w lin1.mo lin1.xo hpo hpb h1 h2 h3 lin1.cnt hDc (fun i => by have := lin1.since i; omega)
      rw [e1s] at XS0
      obtain ⟨F, hF⟩ : ∃ F, F = sendF X P := ⟨_, rfl⟩
      obtain ⟨X2, hX2⟩ : ∃ X2, X2 = sendM X P := ⟨_, rfl⟩
      obtain ⟨D, hD⟩ : ∃ D, D = chooseN X P.src P.dst P.port := ⟨_, rfl⟩
      rw [← hF] at XS0 t1 t2 t3 both2 hfs
      rw [← hX2] at XS0 both2 bothl lin2
      rw [← hD] at XS0 hDc hD8 both2 bothl lin2
      obtain ⟨m2, hm2⟩ : ∃ m2, m2 = m1.setSince D (if sendK X P = 3 then 0 else m1.since.getD D 0 + 1) := ⟨_, rfl⟩
      rw [← hm2] at XS0 lin2
      have e2s : m2.s = s := by rw [hm2]; exact e1s
      have e2r : m2.r = y := by rw [hm2]; exact e1r
      have e2l : m2.lost = m.lost := by rw [hm2]; exact e1l
      have XS := hide XS0
      have hL2 := Ln.getLost lin2.mo D hD8
      have hK2 : m2.cells[1]? = some (.int .i64 (m2.keep : Nat)) := by rw [Ln.get0 m2 1 (by omega)]; rfl
      have hS2 : m2.cells[3]? = some (.pointer (some ⟨s, 0, none⟩)) := by rw [Ln.get0 m2 3 (by omega), ← e2s]; rfl
      have hkk : X.keep = m2.keep := by rw [lin1.xk, hm2]; rfl
      rw [← e2l] at both2 bothl
      rw [hkk] at bothl
      obtain ⟨N, hN⟩ : ∃ N, N = m2.lost.getD D 0 := ⟨_, rfl⟩
      rw [← hN] at hL2 bothl
      obtain ⟨Kp, hKp⟩ : ∃ Kp, Kp = m2.keep := ⟨_, rfl⟩
      have hk1 := lin2.mo.k1
      have hk4 := lin2.mo.k4
      rw [← hKp] at hK2 bothl hk1 hk4
      have hsn : s ≠ y := by rw [← hms, ← hmr]; exact hat.sr
      have hbs : b ≠ s := by rw [← hms]; exact hat.bs
      have hby : b ≠ y := by rw [← hmr]; exact hat.br
      have L0 := hat.ln
      have S0 : SndAt wr s X := by rw [← hms]; exact hat.snd
      have R0 : RcvAt wr y Y := by rw [← hmr]; exact hat.rcv
      have hbl := block_lt L0
      have hsl := block_lt S0
      have hyl := block_lt R0
      obtain ⟨m3, hm3⟩ : ∃ m3, m3 = m2.setLost D 0 := ⟨_, rfl⟩
      have e3r : m3.r = y := by rw [hm3]; exact e2r
      obtain ⟨Y2, hY2⟩ : ∃ Y2, Y2 = takeM Y F := ⟨_, rfl⟩
      rw [← hY2] at both2
      have XC := hide (show ∀ w : World, LnAt w b m3 → RcvAt w y Y → Calls Try.prog 41 #[.pointer (some ⟨b, 0, none⟩), .string (bs F), .agg P.cells] w fun e w' => e = .returned (.bool true) ∧ RcvAt w' y Y2 ∧ Only (· = y) w w' by
        intro w h1 h2; have := comes_any m3 b Y F P w lin1.yo h1 (by rw [e3r]; exact h2) (by rw [e3r]; exact hby) (by omega) t1 t3 t2; rw [e3r, ← hY2] at this; exact this)
      have XH := hide (show ∀ w : World, SndAt w s X2 → _ from fun w h => ghear_any X2 s o.hear w lin2.xo h hoo.hear)
      have HL0 := hide L0
      have HS0 := hide S0
      have HR0 := hide R0
      have HBel := hide hbel
      have HLin := hide lin2
      have HB2 := hide both2
      have HBl := hide bothl
      have hD0 : (0 : Int) ≤ (D : Int) := by omega
      have hDI : (D : Int) < 8 := by omega
      have hjI : (j : Int) < (S.length : Int) := by omega
      have hj0 : (0 : Int) ≤ (j : Int) := by omega
      have Hm3 := hide hm3
      have HY2 := hide hY2
      have HN := hide hN
      have HKp := hide hKp
      have Hso := hide ho
      have HL2 := hide hL2
      have HK2 := hide hK2
      have HS2 := hide hS2
      clear hat L0 S0 R0 hbel lin2 both2 bothl hlin hboth hms hmr hoo hpo hpb hP hm1 lin1 e1s e1r e1l hDc t1 t2 t3 hfs XS0 hF hX2 hD hm2 hkk hm3 hY2 hN hKp e3r ho hL2 hK2 hS2
      unfold Sp.cells at XP
      go_upto_region 11 with (first
        | (go_at_call 39; refine (unhide XP _ (unhide HL0)).mono ?_; unfold Pk.cells; rintro e w1 ⟨rfl, h1, o1⟩; have HL1 := hide h1; have HO1 := hide o1; clear h1 o1)
        | (go_at_call 40; refine (unhide XS _ (block_alloc (unhide HL1) _) (block_alloc ((unhide HO1).keep (unhide HS0) (by omega)) _) hbs).mono ?_; rintro e w2 ⟨rfl, h2, g2, o2⟩; have hz := (unhide HO1).size; have P2 : w2.heap[w1.heap.size]? = some (.cells P.cells 51 (0, 0)) := o2.keep (heap_alloc_new w1 _) (by omega); have HL2' := hide h2; have HSn2 := hide g2; have HO2 := hide o2; have HP2 := hide P2; clear h2 g2 o2 P2))
      have B2 : Below W.heap.size W w2 := below_only (grew_alloc (below_only (unhide HBel) (unhide HO1) (fun k hk => by omega)) _) (unhide HO2) (fun k hk => by omega)
      obtain ⟨_, _, _, _, _, _, _, a7, a8⟩ := step_cells (unhide HS) B2 hlt (unhide Hso)
      have c1 := (block_cell (unhide HL2') (85 + D)).trans (unhide HL2)
      have c2 := (block_cell (unhide HL2') 1).trans (unhide HK2)
      have R2 : RcvAt w2 y Y := (unhide HO2).keep (block_alloc ((unhide HO1).keep (unhide HR0) (by omega)) _) (by omega)
      have HR2 := hide R2
      have HB2' := hide B2
      have hbl2 := block_lt (unhide HL2')
      clear R2 B2 s0 s1 s2 s3 s4 s5 s6 s7 s8 XP XS HO1 HO2 HL0 HL1 HS0 HR0 HBel
      obtain ⟨G, hG⟩ : ∃ G, G = (o.lose && decide (N + 1 < Kp)) := ⟨_, rfl⟩
      go_cut [59] (fun v wx => v = .bool G ∧ LnAt wx b m2 ∧ SndAt wx s X2 ∧ RcvAt wx y Y ∧ wx.heap[w1.heap.size]? = some (.cells P.cells 51 (0, 0)) ∧ Below W.heap.size W wx)
      case first =>
        by_cases hlo : o.lose = true
        · rw [hlo] at a7
          by_cases hnk : N + 1 < Kp
          · have hd' : (N : Int) < (Kp : Int) - 1 := by omega
            go_quiet (fail)
            go_wp2_with fail
            go_meet
            case rel => exact ⟨by rw [hG, hlo, decide_eq_true hnk]; rfl, at_drewN (unhide HL2') nq, at_drewN (unhide HSn2) nq, at_drewN (unhide HR2) nq, at_drewN (unhide HP2) nq, below_drewN (unhide HB2') nq⟩
          · have hd' : decide ((N : Int) < (Kp : Int) - 1) = false := decide_eq_false (by omega)
            have hd2 : ¬ ((N : Int) < (Kp : Int) - 1) := by omega
            go_quiet (fail)
            go_wp2_with fail
            go_meet
            case rel => exact ⟨by rw [hG, hlo, decide_eq_false hnk]; rfl, at_drewN (unhide HL2') nq, at_drewN (unhide HSn2) nq, at_drewN (unhide HR2) nq, at_drewN (unhide HP2) nq, below_drewN (unhide HB2') nq⟩
        · have hlo2 : o.lose = false := by simpa using hlo
          rw [hlo2] at a7
          go_quiet (fail)
          go_wp2_with fail
          go_meet
          case rel => exact ⟨by rw [hG, hlo2]; rfl, at_drewN (unhide HL2') nq, at_drewN (unhide HSn2) nq, at_drewN (unhide HR2) nq, at_drewN (unhide HP2) nq, below_drewN (unhide HB2') nq⟩
      case rest =>
        obtain ⟨rfl, L3, S3, R3, P3, B3⟩ := hcut
        clear a7 a8 c1 c2 HL2' HSn2 HR2 HP2 HB2'
        generalize wc = w3 at L3 S3 R3 P3 B3 ⊢
        go_upto_if 59 with fail
        go_cut [11] (fun v wx => v = .bool true ∧ ∃ (n : Nat) (Y' : Rcv), LnAt wx b (m2.setLost D n) ∧ SndAt wx s X2 ∧ RcvAt wx y Y' ∧ Below W.heap.size W wx ∧ Lin (m2.setLost D n) X2 Y' ∧ Both X2 Y' (m2.setLost D n).lost)
        case first =>
          cases G with
          | true =>
            have hnk : N + 1 < Kp := by
              have h := hG.symm
              rw [Bool.and_eq_true, decide_eq_true_eq] at h
              exact h.2
            clear hG
            have c1d : w3.drew.cell? ⟨b, 85 + D, none⟩ = some (.int .i64 (N : Int)) := (block_cell L3 (85 + D)).trans (unhide HL2)
            have z1d : w3.drew.frozen? ⟨b, 85 + D, none⟩ = false := block_free L3 (85 + D)
            have HL3 := hide L3
            have HS3 := hide S3
            have HR3 := hide R3
            have HB3 := hide B3
            clear L3 S3 R3 B3 P3
            go_upto_region 12 with fail
            go_region
            have L4 : LnAt (w3.setCell ⟨b, 85 + D, none⟩ (.int .i64 ((N : Int) + 1))).drew b (m2.setLost D (N + 1)) := by
              have e := heap_setCell_same w3 b (85 + D) _ _ (.int .i64 ((N : Int) + 1)) (unhide HL3)
              have e2 := Ln.putLost (unhide HLin).mo D (N + 1) (by omega)
              rw [show ((N + 1 : Nat) : Int) = (N : Int) + 1 by omega] at e2
              rw [e2] at e
              exact e
            have S4 : SndAt (w3.setCell ⟨b, 85 + D, none⟩ (.int .i64 ((N : Int) + 1))).drew s X2 := at_drew (block_set (unhide HS3) (fun e => hbs e.symm) _)
            have R4 : RcvAt (w3.setCell ⟨b, 85 + D, none⟩ (.int .i64 ((N : Int) + 1))).drew y Y := at_drew (block_set (unhide HR3) (fun e => hby e.symm) _)
            have B4 : Below W.heap.size W (w3.setCell ⟨b, 85 + D, none⟩ (.int .i64 ((N : Int) + 1))).drew := ((unhide HB3).setCell hb _).drew
            have HA4 := hide (show _ ∧ _ ∧ _ ∧ _ from ⟨L4, S4, R4, B4⟩)
            clear L4 S4 R4 B4 c1d z1d
            generalize (w3.setCell ⟨b, 85 + D, none⟩ (.int .i64 ((N : Int) + 1))).drew = w4 at HA4 ⊢
            go_wp2_with fail
            go_meet
            case rel =>
              obtain ⟨L4, S4, R4, B4⟩ := unhide HA4
              exact ⟨rfl, N + 1, Y, L4, S4, R4, B4, (unhide HLin).lost D (N + 1), (unhide HBl) hnk⟩
          | false =>
            clear hG
            have z1 := block_free L3 (85 + D)
            have c1 := (block_cell L3 (85 + D)).trans (unhide HL2)
            obtain ⟨p0, p1, p2, p3, p4, p5, p6, p7⟩ := cells8 P3
            have HL3 := hide L3
            have HS3 := hide S3
            have HR3 := hide R3
            have HP3 := hide P3
            have HB3 := hide B3
            clear L3 S3 R3 B3 P3
            go_upto_region 14 with fail
            have L4 : LnAt (w3.setCell ⟨b, 85 + D, none⟩ (.int .i64 0)) b m3 := by
              have e := heap_setCell_same w3 b (85 + D) _ _ (.int .i64 0) (unhide HL3)
              have e2 := Ln.putLost (unhide HLin).mo D 0 (by omega)
              rw [unhide Hm3]
              rw [show ((0 : Nat) : Int) = 0 by omega] at e2
              rw [e2] at e
              exact e
            have S4 : SndAt (w3.setCell ⟨b, 85 + D, none⟩ (.int .i64 0)) s X2 := block_set (unhide HS3) (fun e => hbs e.symm) _
            have R4 : RcvAt (w3.setCell ⟨b, 85 + D, none⟩ (.int .i64 0)) y Y := block_set (unhide HR3) (fun e => hby e.symm) _
            have P4 := block_set (a := ⟨b, 85 + D, none⟩) (unhide HP3) (by show _ ≠ b; omega) (.int .i64 0)
            have B4 : Below W.heap.size W (w3.setCell ⟨b, 85 + D, none⟩ (.int .i64 0)) := (unhide HB3).setCell hb _
            clear c1 z1 p0 p1 p2 p3 p4 p5 p6 p7
            generalize w3.setCell ⟨b, 85 + D, none⟩ (.int .i64 0) = w4 at L4 S4 R4 P4 B4 ⊢
            obtain ⟨p0, p1, p2, p3, p4, p5, p6, p7⟩ := cells8 P4
            have HL4 := hide L4
            have HS4 := hide S4
            have HR4 := hide R4
            have HB4 := hide B4
            clear L4 S4 R4 P4 B4
            go_wp2_with (go_at_call 41; refine (unhide XC _ (unhide HL4) (unhide HR4)).mono ?_; rintro e w5 ⟨rfl, h5, o5⟩; have HR5 := hide h5; have HO5 := hide o5; clear h5 o5)
            go_meet
            case rel =>
              have o5 := unhide HO5
              have l5 : LnAt w5 b m3 := o5.keep (unhide HL4) hby
              rw [unhide Hm3] at l5
              exact ⟨rfl, 0, Y2, l5, o5.keep (unhide HS4) hsn, unhide HR5, below_only (unhide HB4) o5 (fun k hk => by omega), by rw [unhide HY2]; exact ((unhide HLin).take F).lost D 0, unhide HB2⟩
        case rest =>
          obtain ⟨rfl, n, Y', L5, S5, R5, B5, lin5, both5⟩ := hcut
          have e5s : (m2.setLost D n).s = s := e2s
          have e5r : (m2.setLost D n).r = y := e2r
          have hS5 : (m2.setLost D n).cells[3]? = some (.pointer (some ⟨s, 0, none⟩)) := by rw [Ln.get0 _ 3 (by omega), ← e2s]; rfl
          obtain ⟨m5, hm5⟩ : ∃ m5, m5 = m2.setLost D n := ⟨_, rfl⟩
          rw [← hm5] at L5 lin5 both5 e5s e5r hS5
          clear hm5
          generalize wc = w5 at L5 S5 R5 B5 ⊢
          have c3 : w5.drew.cell? ⟨b, 3, none⟩ = some (.pointer (some ⟨s, 0, none⟩)) := (block_cell L5 3).trans hS5
          obtain ⟨_, _, _, _, _, _, _, _, a8⟩ := step_cells (unhide HS) B5.drew hlt (unhide Hso)
          have HA := hide (show _ ∧ _ ∧ _ ∧ _ ∧ _ ∧ _ from ⟨L5, S5, R5, B5, lin5, both5⟩)
          have HS5 := hide hS5
          clear L5 S5 R5 B5 lin5 both5 hS5
          go_upto_region 17 with fail
          go_region_held3 (fun w' => w'.cell? ⟨b, 3, none⟩ = some (.pointer (some ⟨s, 0, none⟩)) ∧ w'.cell? ⟨sb, off + j * 9 + 8, none⟩ = some (.string (bs o.hear)))
            ((first | (exact ⟨c3, a8⟩) | (exact ⟨(block_cell (o6.keep (unhide HA).1 hbs) 3).trans (unhide HS5), (step_cells (unhide HS) (below_only (unhide HA).2.2.2.1.drew o6 (fun k hk => by omega)) hlt (unhide Hso)).2.2.2.2.2.2.2.2⟩)))
            ((go_at_call 42; refine (unhide XH _ (at_drew (unhide HA).2.1)).mono ?_; rintro e w6 ⟨rfl, h6, o6⟩))
          all_goals
            have HA6 := hide (show _ ∧ _ from ⟨h6, o6⟩)
            clear h6 o6 c3 a8
            go_wp2_with fail
            go_roundw
            case rel =>
              obtain ⟨h6, o6⟩ := unhide HA6
              obtain ⟨L5, S5, R5, B5, lin5, both5⟩ := unhide HA
              exact ⟨j + 1, m5, _, Y', by omega, by go_num, e5s, e5r, lin5.hear o.hear, both_hear lin5.xo both5 o.hear, ⟨o6.keep (at_drew L5) hbs, by rw [e5s]; exact h6, by rw [e5r]; exact o6.keep (at_drew R5) (fun e => hsn e.symm), by rw [e5s]; exact hbs, by rw [e5r]; exact hby, by rw [e5s, e5r]; exact hsn⟩, below_only B5.drew o6 (fun k hk => by omega)⟩
            case measure => simp [intOf]; omega
    · have HB9 := hide hbel
      have hge : ¬ ((j : Int) < (S.length : Int)) := by omega
      clear hlin hboth hat hbel hms hmr
      go_wp2_with fail
      go_ret
      exact ⟨rfl, unhide HB9⟩

end Go.Proofs.Ytgpojbgjfibblaa.texts
