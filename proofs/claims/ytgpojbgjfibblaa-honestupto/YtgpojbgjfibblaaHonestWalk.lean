/-
  The walk of Honest (gistkeep).
  Conditions stand in each theorem.
-/
import Derived.Test.YtgpojbgjfibblaaHonestIn
namespace Go.Proofs.Ytgpojbgjfibblaa.texts
open Go.RowKit
set_option linter.unusedVariables false
attribute [local go_sem ↓] Go.wp_at_zero Go.wp_at_succ

theorem Only.keep_cell {S : Nat → Prop} {w w' : World} (o : Only S w w') {g i : Nat} {v : Value} (h : w.cell? ⟨g, i, none⟩ = some v) (hg : ¬ S g) : w'.cell? ⟨g, i, none⟩ = some v := by
  have hlt : g < w.heap.size := by
    by_cases h2 : g < w.heap.size
    · exact h2
    · simp [World.cell?, Array.getElem?_eq_none (Nat.le_of_not_lt h2)] at h
  rw [World.cell?_of_block (o.block g hlt hg)]
  exact h

set_option maxRecDepth 100000 in
set_option maxHeartbeats 8000000 in
theorem honests_any (a k r : Int) (W : World) (S : List Sp) (ao : Option Addr) (sb off cap : Nat) (ha : Raw a) (hk : Raw k) (hr : Raw r) (hS : StepsAt W (.slice ao S.length cap) S ao sb off cap) (hok : ∀ i, i < S.length → (S.getD i Sp.zero).ok) (hl : S.length ≤ 1048576)
    (T : List Int) (ta : Option Addr) (tb toff tcap : Nat) (hT : IntsAt W (.slice ta T.length tcap) T ta tb toff tcap) (hTl : T.length ≤ maxLen) :
    Calls Try.prog 11 #[.agg #[.int .i64 a, .int .i64 k, .int .i64 r], .slice ao S.length cap, .slice ta T.length tcap] W fun e w' => e = .returned (.bool true) ∧ Below W.heap.size W w' := by
  have hC1 := bits.pk_bd a 8 (by decide)
  have hK1 := bits.pk_bd k 4 (by decide)
  have hR1 := bits.pk_bd r 99 (by decide)
  obtain ⟨C, hC⟩ : ∃ C : Nat, 1 + bits.pk a 8 = (C : Int) := ⟨(1 + bits.pk a 8).toNat, by omega⟩
  obtain ⟨K, hK⟩ : ∃ K : Nat, 1 + bits.pk k 4 = (K : Int) := ⟨(1 + bits.pk k 4).toNat, by omega⟩
  obtain ⟨R, hR⟩ : ∃ R : Nat, 2 + bits.pk r 99 = (R : Int) := ⟨(2 + bits.pk r 99).toNat, by omega⟩
  have c1 : 1 ≤ C := by omega
  have c2 : C ≤ 8 := by omega
  have k1 : 1 ≤ K := by omega
  have k2 : K ≤ 4 := by omega
  have r1 : 2 ≤ R := by omega
  have r2 : R ≤ 100 := by omega
  have XB := hide (show ∀ w : World, _ from fun w => begun_any a k r w ha hk hr C K R hC hK hR)
  have hll : (S.length : Int) ≤ 1048576 := by omega
  have hlT : (T.length : Int) ≤ 9223372036854775807 := by unfold maxLen at hTl; omega
  clear hC1 hK1 hR1 hC hK hR ha hk hr
  have HS := hide hS
  have HO := hide hok
  have HT := hide hT
  have HW := hide (show Below W.heap.size W (W.alloc (.cells #[.int .i64 a, .int .i64 k, .int .i64 r] 81)) from (Below.refl _ _).alloc (Nat.le_refl _) _)
  clear hS hok hT
  obtain ⟨i0, hi, hz0, hz1, hz2⟩ := info_parts infoS
  obtain ⟨i1, hi1, hy0', hy1, hy2⟩ := info_parts infoP
  have Hi := hide (show _ ∧ _ ∧ _ ∧ _ from ⟨hi, hz0, hz1, hz2⟩)
  have Hi1 := hide (show _ ∧ _ ∧ _ ∧ _ from ⟨hi1, hy0', hy1, hy2⟩)
  clear hi hz0 hz1 hz2 hi1 hy0' hy1 hy2
  go_enter Try.func11, Try.ntmps11
  go_wp2_with (first
    | (go_at_call 38; refine (unhide XB _).mono ?_; rintro e w1 ⟨b, s, y, rfl, hb0, hs0, hy0, hat, hbel⟩; have hb : W.heap.size ≤ b := Nat.le_trans (by simp) hb0; have hs : W.heap.size ≤ s := Nat.le_trans (by simp) hs0; have hy : W.heap.size ≤ y := Nat.le_trans (by simp) hy0; clear hb0 hs0 hy0; have HB := hide (show Below W.heap.size W w1 from grew_call (unhide HW) hbel); have HA := hide hat; clear hat hbel))
  obtain ⟨lin0, _⟩ := first_lin s y c1 c2 k1 k2 r1 r2
  obtain ⟨L00, S00, R00, hbs, hby, hsy⟩ := (unhide HA).parts (s := s) (y := y) rfl rfl
  obtain ⟨Bz, hBz⟩ : ∃ Bz, Bz = w1.heap.size := ⟨_, rfl⟩
  have hbz : b < Bz := by rw [hBz]; exact block_lt L00
  have hsz : s < Bz := by rw [hBz]; exact block_lt S00
  have hyz : y < Bz := by rw [hBz]; exact block_lt R00
  have hzW : W.heap.size ≤ Bz := by rw [hBz]; exact (unhide HB).size
  have start : HonIn W Bz b s y (firstL C K R s y) (sendM (freshN C K R) firstP) (takeM (freshR C) (sendF (freshN C K R) firstP)) [] [] (.slice none 0 0) (.slice none 0 0) w1 :=
    ⟨L00, S00, R00, unhide HB, World.ownsRow_nil _ _ _ _, World.ownsRow_nil _ _ _ _, by omega⟩
  have HSt0 := hide start
  have HLin := hide lin0
  clear lin0 XB HW start L00 S00 R00 HA HB hBz
  go_loopw [9, 10, 11, 12] (fun v u at_ i wr => ∃ (j q : Nat) (m : Ln) (X : Snd) (Y : Rcv) (fs : List (List UInt8)) (ps : List Pk), j ≤ S.length ∧ q ≤ T.length ∧ i = .int .i64 j ∧ at_ = .int .i64 q ∧ fs.length = j ∧ ps.length = j ∧ m.s = s ∧ m.r = y ∧ Lin m X Y ∧ m.cids = C ∧ (∀ n, n < j → Made C (fs.getD n []) (ps.getD n zeroP)) ∧ HonIn W Bz b s y m X Y fs ps v u wr) (fun _ _ _ i _ => S.length - (intOf i).toNat)
  case atStart => exact ⟨0, 0, _, _, _, [], [], by omega, by omega, rfl, rfl, rfl, rfl, rfl, rfl, unhide HLin, rfl, fun n hn => by omega, unhide HSt0⟩
  case round =>
    obtain ⟨j, q, m, X, Y, fs, ps, hj, hq, rfl, rfl, hfl, hpl, hms, hmr, hlin, hmc, hall, hin⟩ := hrel
    clear HLin HSt0
    by_cases hlt : j < S.length
    · obtain ⟨o, ho⟩ : ∃ o, S.getD j Sp.zero = o := ⟨_, rfl⟩
      have hoo : o.ok := ho ▸ unhide HO j hlt
      obtain rfl : ao = some ⟨sb, off, none⟩ := (unhide HS).addr (by omega)
      obtain ⟨s0, s1, s2, s3, s4, s5, s6, s7, s8⟩ := step_cells (unhide HS) hin.bel hlt ho
      obtain ⟨P, F, D, N, X2, m1, m2, st⟩ := one_step (b := b) hlin hoo hms hmr
      have hmade : Made C F P := by
        have := made_step st hlin.xo
        rw [hlin.yc, hmc] at this
        exact this
      have hmc2 : m2.cids = C := by rw [← st.lin.yc, hlin.yc]; exact hmc
      have XP := hide st.packet
      have XS := hide st.send
      have hblw := block_lt hin.ln
      have hslw := block_lt hin.snd
      have hylw := block_lt hin.rcv
      have hjI : (j : Int) < (S.length : Int) := by omega
      have hj0 : (0 : Int) ≤ (j : Int) := by omega
      have HSt := hide st
      have HIn := hide hin
      have HMade := hide hmade
      have HAll := hide hall
      have Hmc2 := hide hmc2
      clear st hin hmade hall hoo hmc2 ho hlin hms hmr hmc
      unfold Sp.cells at XP
      go_upto_region 14 with (first
        | (go_at_call 39; refine (unhide XP _ (unhide HIn).ln).mono ?_; unfold Pk.cells; rintro e w1 ⟨rfl, h1, o1⟩; have HL1 := hide h1; have HO1 := hide o1; clear h1 o1)
        | (go_at_call 40; refine (unhide XS _ (block_alloc (unhide HL1) _) (block_alloc ((unhide HO1).keep (unhide HIn).snd (by omega)) _) hbs).mono ?_; rintro e w2 ⟨rfl, h2, g2, o2⟩; have hz := (unhide HO1).size; have P2 : w2.heap[w1.heap.size]? = some (.cells P.cells 51 (0, 0)) := o2.keep (heap_alloc_new w1 _) (by omega); have HIn2 := hide ((unhide HIn).sent (unhide HO1) o2 h2 g2 hbz hsz hb hs hby hsy); have HP2 := hide P2; clear h2 g2 o2 P2))
      clear s0 s1 s2 s3 s4 s5 s6 s7 s8 XP XS HL1
      obtain ⟨hi, hz0, hz1, hz2⟩ := unhide Hi
      have hown := (unhide HIn2).fo
      have hzb2 := (unhide HIn2).zb
      have hp1 : w1.heap.size < w2.heap.size := block_lt (unhide HP2)
      have hpz : Bz ≤ w1.heap.size := Nat.le_trans (unhide HIn).zb (unhide HO1).size
      go_upto_region 15 with (at_builtin; refine wpList_append_own _ rfl _ _ 63 rfl Bz 9 i0 (.string ⟨#[]⟩) 1 16 Try.underlying63 hi hz0 hz1 hz2 rfl (by decide) _ _ _ rfl (hown.alloc _) ⟨w2.heap.size, 0, none⟩ 1 1 [.string (bs F)] rfl rfl ?c1 ?c2 ?c3 ?c4 ?c5 ?_)
      case c1 =>
        intro i u hu
        rw [Addr.add_mid, Nat.zero_add, block_cell (heap_alloc_new w2 _)]
        simpa using hu
      case c2 => intro u hu; simp at hu; subst hu; rfl
      case c3 => unfold maxLen; omega
      case c4 => omega
      case c5 => simp; omega
      intro v' w3 hown3 hgrow3 _
      have In3 := (unhide HIn2).frame (F := F) hgrow3 (by rw [hfl]; exact hown3) hbz hsz hyz hzW
      have P3 : w3.heap[w1.heap.size]? = some (.cells P.cells 51 (0, 0)) := by
        have e2 := block_alloc (unhide HP2) (Obj.cells #[Value.string (bs F)] 9)
        rw [hgrow3.block _ (block_lt e2) (fun e3 => by
          obtain ⟨cur, hc⟩ := own_type hown e3.symm
          rw [unhide HP2] at hc
          simp at hc)]
        exact e2
      have HIn3 := hide In3
      obtain ⟨p0, p1, p2, p3, p4, p5, p6, p7⟩ := cells8 P3
      clear hown3 hgrow3 In3 hown hi hz0 hz1 hz2 HIn2 HP2 P3
      obtain ⟨hi1, hy0', hy1, hy2⟩ := unhide Hi1
      have hownP := (unhide HIn3).po
      have hzb3 := (unhide HIn3).zb
      go_upto_region 16 with (at_builtin; refine wpList_append_own _ rfl _ _ 101 rfl Bz 51 i1 (.agg zeroP.cells) 8 40 Try.underlying101 hi1 hy0' hy1 hy2 rfl (by decide) _ _ _ rfl (hownP.alloc _) ⟨w3.heap.size, 0, none⟩ 1 1 P.cells.toList rfl rfl ?d1 ?d2 ?d3 ?d4 ?d5 ?_)
      case d1 =>
        intro i u hu
        rw [Addr.add_mid, Nat.zero_add, block_cell (heap_alloc_new w3 _)]
        have : P.cells[i]? = some u := by simpa using hu
        exact this
      case d2 => exact pk_one P
      case d3 => unfold maxLen; omega
      case d4 => omega
      case d5 => simp; omega
      intro u' w4 hown4 hgrow4 _
      have In4 := (unhide HIn3).packet (P := P) hgrow4 (by rw [hpl]; exact hown4) hbz hsz hyz hzW
      have HIn4 := hide In4
      clear hown4 hgrow4 In4 hownP hi1 hy0' hy1 hy2 HIn3 p0 p1 p2 p3 p4 p5 p6 p7
      have all2 : ∀ n, n < j + 1 → Made C ((fs ++ [F]).getD n []) ((ps ++ [P]).getD n zeroP) := by
        intro n hn
        by_cases e : n < j
        · have := unhide HAll n e
          rw [List.getD_eq_getElem?_getD, List.getD_eq_getElem?_getD, List.getElem?_append_left (by omega), List.getElem?_append_left (by omega), ← List.getD_eq_getElem?_getD, ← List.getD_eq_getElem?_getD]
          exact this
        · have e2 : n = j := by omega
          rw [List.getD_eq_getElem?_getD, List.getD_eq_getElem?_getD, List.getElem?_append_right (by omega), List.getElem?_append_right (by omega), e2, hfl, hpl]
          simp
          exact unhide HMade
      have HAll2 := hide all2
      have hfl2 : (fs ++ [F]).length = j + 1 := by simp [hfl]
      have hpl2 : (ps ++ [P]).length = j + 1 := by simp [hpl]
      generalize fs ++ [F] = fs2 at HAll2 hfl2 HIn4
      generalize ps ++ [P] = ps2 at HAll2 hpl2 HIn4
      clear all2 HAll HMade HIn
      go_wp2_with fail
      go_loopw [11, 17] (fun at_ kk wq => ∃ (q k : Nat) (Y' : Rcv), q ≤ T.length ∧ k ≤ 2 ∧ at_ = .int .i64 q ∧ kk = .int .i64 k ∧ Lin m2 X2 Y' ∧ HonIn W Bz b s y m2 X2 Y' fs2 ps2 v' u' wq) (fun _ kk _ => 2 - (intOf kk).toNat)
      case atStart => exact ⟨q, 0, Y, hq, by omega, rfl, rfl, (unhide HSt).lin, unhide HIn4⟩
      case round =>
        obtain ⟨q', kk, Y', hq', hkk, rfl, rfl, linq, hinq⟩ := hrel
        clear HIn4
        by_cases hgo : kk < 2 ∧ q' < T.length
        · obtain ⟨g1, g2⟩ := hgo
          obtain rfl : ta = some ⟨tb, toff, none⟩ := (unhide HT).addr (by omega)
          obtain ⟨hpc, hpr⟩ := (unhide HT).cell q' g2
          have hpw := keep_cell hpc hinq.bel
          obtain ⟨pv, hpv⟩ : ∃ pv, pv = T.getD q' 0 := ⟨_, rfl⟩
          rw [← hpv] at hpw hpr
          have hnb := bits.pk_bd pv ((j + 1 : Nat) : Int) (by omega)
          obtain ⟨n, hn⟩ : ∃ n : Nat, bits.pk pv ((j + 1 : Nat) : Int) = (n : Int) := ⟨(bits.pk pv ((j + 1 : Nat) : Int)).toNat, by omega⟩
          have hnj : n < j + 1 := by omega
          have XK := hide (show ∀ w : World, Calls Try.prog 24 #[.int .i64 pv, .int .i64 ((j : Int) + 1)] w fun e w' => e = .returned (.int .i64 n) ∧ w' = w by
            intro w
            have := bits.pick_any pv ((j + 1 : Nat) : Int) w hpr.1 hpr.2 (by omega) (by omega)
            rw [hn, show ((j + 1 : Nat) : Int) = (j : Int) + 1 by omega] at this
            exact this)
          obtain ⟨af, gf, cf, tx⟩ := own_texts hinq.fo
          obtain rfl := tx.form
          obtain rfl := tx.addr (by omega)
          have cf0 := tx.cell n (by omega)
          rw [Nat.zero_add, ← List.getD_eq_getElem?_getD] at cf0
          obtain ⟨gp, cp, hup, hpcs⟩ := own_pks hinq.po (by omega)
          subst hup
          have hmade := unhide HAll2 n hnj
          obtain ⟨Fn, hFn⟩ : ∃ Fn, Fn = fs2.getD n [] := ⟨_, rfl⟩
          obtain ⟨Pn, hPn⟩ : ∃ Pn, Pn = ps2.getD n zeroP := ⟨_, rfl⟩
          rw [← hFn] at cf0 hmade
          rw [← hPn] at hmade
          have pks : wr.cell? ⟨gp, n * 8, none⟩ = some (.int .u32 Pn.src) ∧ wr.cell? ⟨gp, n * 8 + 1, none⟩ = some (.int .u32 Pn.dst) ∧ wr.cell? ⟨gp, n * 8 + 2, none⟩ = some (.int .u16 Pn.port) ∧ wr.cell? ⟨gp, n * 8 + 3, none⟩ = some (.int .u16 Pn.seq) ∧ wr.cell? ⟨gp, n * 8 + 4, none⟩ = some (.int .u32 Pn.time) ∧ wr.cell? ⟨gp, n * 8 + 5, none⟩ = some (.int .u16 Pn.id) ∧ wr.cell? ⟨gp, n * 8 + 6, none⟩ = some (.int .u8 Pn.flags) ∧ wr.cell? ⟨gp, n * 8 + 7, none⟩ = some (.string (bs Pn.body)) := by
            have h := fun j hj => hpcs n j (by omega) hj
            rw [← hPn] at h
            exact ⟨h 0 (by omega), h 1 (by omega), h 2 (by omega), h 3 (by omega), h 4 (by omega), h 5 (by omega), h 6 (by omega), h 7 (by omega)⟩
          have e2r := (unhide HSt).m2r
          have XHn := hide (show ∀ w : World, LnAt w b m2 → RcvAt w y Y' → Calls Try.prog 43 #[.pointer (some ⟨b, 0, none⟩), .string (bs Fn), .agg Pn.cells] w fun e w' => e = .returned (.bool true) ∧ RcvAt w' y (takeM Y' Fn) ∧ Only (· = y) w w' by
            intro w h1 h2
            have := honest_any m2 b Y' Fn Pn w linq.yo h1 (by rw [e2r]; exact h2) (by rw [e2r]; exact hby) (by rw [linq.yc, unhide Hmc2]; exact hmade)
            rw [e2r] at this
            exact this)
          have hfy : gf ≠ y := by have := (hinq.fo.lt gf rfl).1; omega
          have hgy : gp ≠ y := by have := (hinq.po.lt gp rfl).1; omega
          have HIQ := hide (show _ ∧ _ from ⟨linq, hinq⟩)
          have HC := hide (show _ ∧ _ from ⟨cf0, pks⟩)
          have hn0 : (0 : Int) ≤ (n : Int) := by omega
          have hnI : (n : Int) < (j : Int) + 1 := by omega
          have g1I : (kk : Int) < 2 := by omega
          have g2I : (q' : Int) < (T.length : Int) := by omega
          have hq0 : (0 : Int) ≤ (q' : Int) := by omega
          have hfl3 : (fs2.length : Int) = (j : Int) + 1 := by omega
          have hpl3 : (ps2.length : Int) = (j : Int) + 1 := by omega
          clear hpc hpr hpv hnb hn tx hpcs hmade hFn hPn pks cf0 linq hinq e2r hfl2 hpl2
          go_upto_region 21 with (go_at_call 24; refine (unhide XK _).mono ?_; rintro e w' ⟨rfl, hw'⟩; have hw2 := hw'.symm; subst hw2)
          go_region_held3 (fun w' => w'.cell? ⟨gf, n, none⟩ = some (.string (bs Fn)) ∧ w'.cell? ⟨gp, n * 8, none⟩ = some (.int .u32 Pn.src) ∧ w'.cell? ⟨gp, n * 8 + 1, none⟩ = some (.int .u32 Pn.dst) ∧ w'.cell? ⟨gp, n * 8 + 2, none⟩ = some (.int .u16 Pn.port) ∧ w'.cell? ⟨gp, n * 8 + 3, none⟩ = some (.int .u16 Pn.seq) ∧ w'.cell? ⟨gp, n * 8 + 4, none⟩ = some (.int .u32 Pn.time) ∧ w'.cell? ⟨gp, n * 8 + 5, none⟩ = some (.int .u16 Pn.id) ∧ w'.cell? ⟨gp, n * 8 + 6, none⟩ = some (.int .u8 Pn.flags) ∧ w'.cell? ⟨gp, n * 8 + 7, none⟩ = some (.string (bs Pn.body)))
            ((first | (exact unhide HC) | (exact ⟨o6.keep_cell (unhide HC).1 hfy, o6.keep_cell (unhide HC).2.1 hgy, o6.keep_cell (unhide HC).2.2.1 hgy, o6.keep_cell (unhide HC).2.2.2.1 hgy, o6.keep_cell (unhide HC).2.2.2.2.1 hgy, o6.keep_cell (unhide HC).2.2.2.2.2.1 hgy, o6.keep_cell (unhide HC).2.2.2.2.2.2.1 hgy, o6.keep_cell (unhide HC).2.2.2.2.2.2.2.1 hgy, o6.keep_cell (unhide HC).2.2.2.2.2.2.2.2 hgy⟩)))
            ((go_at_call 43; refine (unhide XHn _ (at_drew (unhide HIQ).2.ln) (at_drew (unhide HIQ).2.rcv)).mono ?_; rintro e w6 ⟨rfl, h6, o6⟩))
          all_goals
            have HA6 := hide (show _ ∧ _ from ⟨h6, o6⟩)
            clear h6 o6
            go_wp2_with fail
            go_roundw
            case rel =>
              obtain ⟨h6, o6⟩ := unhide HA6
              exact ⟨q' + 1, kk + 1, takeM Y' Fn, by omega, by omega, by go_num, by go_num, (unhide HIQ).1.take Fn, (unhide HIQ).2.drew.taken o6 h6 hyz hy hby hsy⟩
            case measure => simp [intOf]; omega
        · have HEnd := hide (show _ ∧ _ from ⟨linq, hinq⟩)
          clear linq hinq
          have hcase : (¬ kk < 2) ∨ (kk < 2 ∧ ¬ q' < T.length) := by omega
          rcases hcase with h1 | ⟨h1, h2⟩
          · have h1I : ¬ ((kk : Int) < 2) := by omega
            have h1D : decide ((kk : Int) < 2) = false := decide_eq_false h1I
            go_wp2_with fail
            go_roundw
            case rel => exact ⟨j + 1, q', m2, X2, Y', fs2, ps2, by omega, hq', by go_num, rfl, hfl2, hpl2, (unhide HSt).m2s, (unhide HSt).m2r, (unhide HEnd).1, unhide Hmc2, unhide HAll2, (unhide HEnd).2⟩
            case measure => simp [intOf]; omega
          · have h1I : (kk : Int) < 2 := by omega
            have h2I : ¬ ((q' : Int) < (T.length : Int)) := by omega
            have h2D : decide ((q' : Int) < (T.length : Int)) = false := decide_eq_false h2I
            go_wp2_with fail
            go_roundw
            case rel => exact ⟨j + 1, q', m2, X2, Y', fs2, ps2, by omega, hq', by go_num, rfl, hfl2, hpl2, (unhide HSt).m2s, (unhide HSt).m2r, (unhide HEnd).1, unhide Hmc2, unhide HAll2, (unhide HEnd).2⟩
            case measure => simp [intOf]; omega
    · have hge : ¬ ((j : Int) < (S.length : Int)) := by omega
      have HB9 := hide hin.bel
      clear hin hall hlin hms hmr hmc
      go_wp2_with fail
      go_ret
      exact ⟨rfl, unhide HB9⟩

end Go.Proofs.Ytgpojbgjfibblaa.texts
