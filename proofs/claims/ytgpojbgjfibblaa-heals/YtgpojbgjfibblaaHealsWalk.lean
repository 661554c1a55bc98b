/-
  The walk of Heals (gistkeep).
  Conditions stand in each theorem.
-/
import Derived.Test.YtgpojbgjfibblaaPart40
import Derived.Test.YtgpojbgjfibblaaPart4
namespace Go.Proofs.Ytgpojbgjfibblaa.texts
open Go.RowKit
set_option linter.unusedVariables false
attribute [local go_sem ↓] Go.wp_at_zero Go.wp_at_succ

/-- the row of what is healed, in memory -/
def HealAt (w : World) (g : Nat) (H : List Bool) : Prop := w.heap[g]? = some (.cells (H.map Value.bool).toArray 105 (0, 0))
theorem HealAt.cell {w : World} {g : Nat} {H : List Bool} (h : HealAt w g H) {i : Nat} (hi : i < H.length) : w.cell? ⟨g, i, none⟩ = some (.bool (H.getD i false)) := by
  rw [block_cell h i]
  simp [List.getD_eq_getElem?_getD, hi]
theorem HealAt.put {w : World} {g : Nat} {H : List Bool} (h : HealAt w g H) (i : Nat) (v : Bool) : HealAt (w.setCell ⟨g, i, none⟩ (.bool v)) g (H.set i v) := by
  have e := heap_setCell_same w g i _ _ (.bool v) h
  rw [HealAt, e]
  simp [List.map_set]

set_option maxRecDepth 100000 in
set_option maxHeartbeats 8000000 in
theorem heals_any (a k r : Int) (W : World) (S : List Sp) (ao : Option Addr) (sb off cap : Nat) (ha : Raw a) (hk : Raw k) (hr : Raw r) (hS : StepsAt W (.slice ao S.length cap) S ao sb off cap) (hok : ∀ i, i < S.length → (S.getD i Sp.zero).ok) (hl : S.length ≤ maxLen)
    (J : List (List UInt8)) (jo : Option Addr) (jb joff jcap : Nat) (hJ : TextsAt W (.slice jo J.length jcap) J jo jb joff jcap) (hJn : J.length ≤ maxLen) (hJl : ∀ f ∈ J, f.length ≤ maxLen)
    (S2 : List Sp) (ao2 : Option Addr) (sb2 off2 cap2 : Nat) (hS2 : StepsAt W (.slice ao2 S2.length cap2) S2 ao2 sb2 off2 cap2) (hok2 : ∀ i, i < S2.length → (S2.getD i Sp.zero).ok) (hl2 : S2.length ≤ maxLen) :
    Calls Try.prog 12 #[.agg #[.int .i64 a, .int .i64 k, .int .i64 r], .slice ao S.length cap, .slice jo J.length jcap, .slice ao2 S2.length cap2] W fun e w' => e = .returned (.bool true) ∧ Below W.heap.size W w' := by
  have hC1 := bits.pk_bd a 8 (by decide)
  have hK1 := bits.pk_bd k 4 (by decide)
  have hR1 := bits.pk_bd r 99 (by decide)
  obtain ⟨C, hC⟩ : ∃ C : Nat, 1 + bits.pk a 8 = (C : Int) := ⟨(1 + bits.pk a 8).toNat, by omega⟩
  obtain ⟨K, hK⟩ : ∃ K : Nat, 1 + bits.pk k 4 = (K : Int) := ⟨(1 + bits.pk k 4).toNat, by omega⟩
  obtain ⟨R, hR⟩ : ∃ R : Nat, 2 + bits.pk r 99 = (R : Int) := ⟨(2 + bits.pk r 99).toNat, by omega⟩
  have c1 : 1 ≤ C := by omega
  have c2 : C ≤ 8 := by omega
  have k1 : 1 ≤ K := by omega
  have k2 : K ≤ 4 := by omega
  have r1 : 2 ≤ R := by omega
  have r2 : R ≤ 100 := by omega
  have XB := hide (show ∀ w : World, _ from fun w => begun_any a k r w ha hk hr C K R hC hK hR)
  have hll : (S.length : Int) ≤ 9223372036854775807 := by unfold maxLen at hl; omega
  have hll2 : (S2.length : Int) ≤ 9223372036854775807 := by unfold maxLen at hl2; omega
  have hlJ : (J.length : Int) ≤ 9223372036854775807 := by unfold maxLen at hJn; omega
  have hJs : ∀ i, i < J.length → (J[i]?.getD []).length ≤ 9223372036854775807 := fun i hi => by rw [List.getElem?_eq_getElem hi]; exact hJl _ (List.getElem_mem hi)
  clear hC1 hK1 hR1 hC hK hR ha hk hr
  have HS := hide hS
  have HO := hide hok
  have HS2 := hide hS2
  have HO2 := hide hok2
  have HJ := hide hJ
  have HJs := hide hJs
  have HW := hide (show Below W.heap.size W (W.alloc (.cells #[.int .i64 a, .int .i64 k, .int .i64 r] 81)) from (Below.refl _ _).alloc (Nat.le_refl _) _)
  clear hS hok hS2 hok2 hJ hJs hJl
  go_enter Try.func12, Try.ntmps12
  go_wp2_with (first
    | (go_at_call 38; refine (unhide XB _).mono ?_; rintro e w1 ⟨b, s, y, rfl, hb0, hs0, hy0, hat, hbel⟩; have hb : W.heap.size ≤ b := Nat.le_trans (by simp) hb0; have hs : W.heap.size ≤ s := Nat.le_trans (by simp) hs0; have hy : W.heap.size ≤ y := Nat.le_trans (by simp) hy0; clear hb0 hs0 hy0; have HB := hide (show Below W.heap.size W w1 from grew_call (unhide HW) hbel); have HA := hide hat; clear hat hbel))
  obtain ⟨lin0, _⟩ := first_lin s y c1 c2 k1 k2 r1 r2
  have HLin := hide lin0
  clear lin0 XB HW
  go_loopw [11] (fun i wr => ∃ (j : Nat) (m : Ln) (X : Snd) (Y : Rcv), j ≤ S.length ∧ i = .int .i64 j ∧ m.s = s ∧ m.r = y ∧ Lin m X Y ∧ LinAt wr b m X Y ∧ Below W.heap.size W wr) (fun i _ => S.length - (intOf i).toNat)
  case atStart => exact ⟨0, _, _, _, by omega, rfl, rfl, rfl, unhide HLin, unhide HA, unhide HB⟩
  case round =>
    obtain ⟨j, m, X, Y, hj, rfl, hms, hmr, hlin, hat, hbel⟩ := hrel
    clear HLin HA HB
    by_cases hlt : j < S.length
    · obtain ⟨o, ho⟩ : ∃ o, S.getD j Sp.zero = o := ⟨_, rfl⟩
      have hoo : o.ok := ho ▸ unhide HO j hlt
      obtain rfl : ao = some ⟨sb, off, none⟩ := (unhide HS).addr (by omega)
      obtain ⟨s0, s1, s2, s3, s4, s5, s6, s7, s8⟩ := step_cells (unhide HS) hbel hlt ho
      obtain ⟨L0, S0, R0, hbs, hby, hsy⟩ := hat.parts hms hmr
      obtain ⟨P, F, D, N, X2, m1, m2, st⟩ := one_step (b := b) hlin hoo hms hmr
      have XP := hide st.packet
      have XS := hide st.send
      have hD8 := st.d8
      have hfl := st.fl
      have hN := st.nr
      have hNc := st.since
      have hRc : m2.cells[2]? = some (.int .i64 (m2.refresh : Nat)) := by rw [Ln.get0 m2 2 (by omega)]; rfl
      obtain ⟨Rf, hRf⟩ : ∃ Rf, Rf = m2.refresh := ⟨_, rfl⟩
      rw [← hRf] at hRc hN
      have hSp : m2.cells[3]? = some (.pointer (some ⟨s, 0, none⟩)) := by rw [Ln.get0 m2 3 (by omega), ← st.m2s]; rfl
      have hRp : m2.cells[4]? = some (.pointer (some ⟨y, 0, none⟩)) := by rw [Ln.get0 m2 4 (by omega), ← st.m2r]; rfl
      have hbl := block_lt L0
      have hsl := block_lt S0
      have hyl := block_lt R0
      have hrf := st.lin.mo.r100
      have hNI : ¬ ((Rf : Int) ≤ (N : Int)) := by omega
      have hNd : decide ((Rf : Int) ≤ (N : Int)) = false := decide_eq_false hNI
      have hD0 : (0 : Int) ≤ (D : Int) := by omega
      have hDI : (D : Int) < 8 := by omega
      have hjI : (j : Int) < (S.length : Int) := by omega
      have hj0 : (0 : Int) ≤ (j : Int) := by omega
      have HSt := hide st
      have HL0 := hide L0
      have HS0 := hide S0
      have HR0 := hide R0
      have HBel := hide hbel
      have Hso := hide ho
      have Hoo := hide hoo
      have HNc := hide hNc
      have HRc := hide hRc
      have HSp := hide hSp
      have HRp := hide hRp
      clear st L0 S0 R0 hbel ho hoo hNc hRc hSp hRp hat hms hmr hlin hRf hrf
      unfold Sp.cells at XP
      go_upto_region 9 with (first
        | (go_at_call 39; refine (unhide XP _ (unhide HL0)).mono ?_; unfold Pk.cells; rintro e w1 ⟨rfl, h1, o1⟩; have HL1 := hide h1; have HO1 := hide o1; clear h1 o1)
        | (go_at_call 40; refine (unhide XS _ (block_alloc (unhide HL1) _) (block_alloc ((unhide HO1).keep (unhide HS0) (by omega)) _) hbs).mono ?_; rintro e w2 ⟨rfl, h2, g2, o2⟩; have hz := (unhide HO1).size; have P2 : w2.heap[w1.heap.size]? = some (.cells P.cells 51 (0, 0)) := o2.keep (heap_alloc_new w1 _) (by omega); have HL2 := hide h2; have HSn2 := hide g2; have HO2' := hide o2; have HP2 := hide P2; clear h2 g2 o2 P2))
      have B2 : Below W.heap.size W w2 := below_only (grew_alloc (below_only (unhide HBel) (unhide HO1) (fun k hk => by omega)) _) (unhide HO2') (fun k hk => by omega)
      have R2 : RcvAt w2 y Y := (unhide HO2').keep (block_alloc ((unhide HO1).keep (unhide HR0) (by omega)) _) (by omega)
      have HR2 := hide R2
      have HB2 := hide B2
      have cs := (block_cell (unhide HL2) (93 + D)).trans (unhide HNc)
      have cr := (block_cell (unhide HL2) 2).trans (unhide HRc)
      clear R2 B2 s0 s1 s2 s3 s4 s5 s6 s7 s8 XP XS
      go_quiet (fail)
      have L3 : LnAt (w2.drewN nq) b m2 := at_drewN (unhide HL2) nq
      have S3 : SndAt (w2.drewN nq) s X2 := at_drewN (unhide HSn2) nq
      have R3 : RcvAt (w2.drewN nq) y Y := at_drewN (unhide HR2) nq
      have B3 : Below W.heap.size W (w2.drewN nq) := below_drewN (unhide HB2) nq
      clear cs cr HL2 HSn2 HR2 HP2 HB2 HO2' HO1 HL1 HL0 HS0 HR0 HBel
      generalize w2.drewN nq = w3 at L3 S3 R3 B3 ⊢
      obtain ⟨_, _, _, _, _, _, _, a7, _⟩ := step_cells (unhide HS) B3 hlt (unhide Hso)
      obtain ⟨G, hG⟩ : ∃ G, G = o.lose := ⟨_, rfl⟩
      rw [← hG] at a7
      have HA3 := hide (show _ ∧ _ ∧ _ ∧ _ from ⟨L3, S3, R3, B3⟩)
      clear L3 S3 R3 B3 hG
      go_upto_if 69 with fail
      go_cut [13] (fun v wx => v = .string (bs F) ∧ ∃ Y' : Rcv, LnAt wx b m2 ∧ SndAt wx s X2 ∧ RcvAt wx y Y' ∧ Below W.heap.size W wx ∧ Lin m2 X2 Y')
      case first =>
        cases G with
        | true =>
          go_wp2_with fail
          go_meet
          case rel => exact ⟨rfl, Y, (unhide HA3).1, (unhide HA3).2.1, (unhide HA3).2.2.1, (unhide HA3).2.2.2, (unhide HSt).lin⟩
        | false =>
          have cp := (block_cell (unhide HA3).1 4).trans (unhide HRp)
          go_wp2_with (go_at_call 44; refine (take_call Y y F _ (unhide HSt).lin.yo (unhide HA3).2.2.1 (by omega)).mono ?_; rintro e w4 ⟨⟨v, rfl⟩, h4, o4⟩; have HA4 := hide (show _ ∧ _ from ⟨h4, o4⟩); clear h4 o4)
          go_meet
          case rel =>
            obtain ⟨h4, o4⟩ := unhide HA4
            exact ⟨rfl, takeM Y F, o4.keep (unhide HA3).1 hby, o4.keep (unhide HA3).2.1 hsy, h4, below_only (unhide HA3).2.2.2 o4 (fun k hk => by omega), (unhide HSt).lin.take F⟩
      case rest =>
        obtain ⟨rfl, Y4, L4, S4, R4, B4, lin4⟩ := hcut
        clear HA3 a7
        generalize wc = w4 at L4 S4 R4 B4 ⊢
        have HA4 := hide (show _ ∧ _ ∧ _ ∧ _ ∧ _ from ⟨L4, S4, R4, B4, lin4⟩)
        clear L4 S4 R4 B4 lin4
        go_upto_if 79 with fail
        go_cut [13] (fun v wx => v = .string (bs F) ∧ ∃ Y' : Rcv, LnAt wx b m2 ∧ SndAt wx s X2 ∧ RcvAt wx y Y' ∧ Below W.heap.size W wx ∧ Lin m2 X2 Y')
        case first =>
          by_cases hjj : j < J.length
          · have hjjI : (j : Int) < (J.length : Int) := by omega
            obtain rfl : jo = some ⟨jb, joff, none⟩ := (unhide HJ).addr (by omega)
            have cp : w4.drew.cell? ⟨b, 4, none⟩ = some (.pointer (some ⟨y, 0, none⟩)) := (block_cell (unhide HA4).1 4).trans (unhide HRp)
            have cj := (unhide HJ).cell j hjj
            have cj4 : w4.drew.cell? ⟨jb, joff + j, none⟩ = _ := keep_cell cj (unhide HA4).2.2.2.1.drew
            have hjs := unhide HJs j hjj
            obtain ⟨T, hT⟩ : ∃ T, T = J[j]?.getD [] := ⟨_, rfl⟩
            rw [← hT] at cj cj4 hjs
            clear hT
            have Hcj := hide cj
            have XT := hide (show ∀ w : World, RcvAt w y Y4 → Calls Try.prog 44 #[.pointer (some ⟨y, 0, none⟩), .string (bs T)] w fun e w' => e = .returned (.tuple #[.agg (takeP Y4 T).cells, .string (bs (takeB Y4 T)), .int .i64 (takeE Y4 T)]) ∧ RcvAt w' y (takeM Y4 T) ∧ Only (· = y) w w' from fun w h => gtake_any Y4 y T w (unhide HA4).2.2.2.2.yo h hjs)
            clear cj
            go_upto_region 14 with fail
            go_region_held3 (fun w' => w'.cell? ⟨b, 4, none⟩ = some (.pointer (some ⟨y, 0, none⟩)) ∧ w'.cell? ⟨jb, joff + j, none⟩ = some (.string (bs T)))
              ((first | (exact ⟨cp, cj4⟩) | (exact ⟨(block_cell (o6.keep (unhide HA4).1 hby) 4).trans (unhide HRp), keep_cell (unhide Hcj) (below_only (unhide HA4).2.2.2.1.drew o6 (fun k hk => by omega))⟩)))
              ((go_at_call 44; refine (unhide XT _ (at_drew (unhide HA4).2.2.1)).mono ?_; rintro e w6 ⟨rfl, h6, o6⟩))
            all_goals
              have HA6 := hide (show _ ∧ _ from ⟨h6, o6⟩)
              clear h6 o6 cp cj4
              go_wp2_with fail
              go_meet
              case rel =>
                obtain ⟨h6, o6⟩ := unhide HA6
                exact ⟨rfl, takeM Y4 T, o6.keep (at_drew (unhide HA4).1) hby, o6.keep (at_drew (unhide HA4).2.1) hsy, h6, below_only (unhide HA4).2.2.2.1.drew o6 (fun k hk => by omega), (unhide HA4).2.2.2.2.take T⟩
          · have hjjI : ¬ ((j : Int) < (J.length : Int)) := by omega
            go_wp2_with fail
            go_meet
            case rel => exact ⟨rfl, Y4, unhide HA4⟩
        case rest =>
          obtain ⟨rfl, Y5, L5, S5, R5, B5, lin5⟩ := hcut
          clear HA4
          generalize wc = w5 at L5 S5 R5 B5 ⊢
          have cp : w5.drew.cell? ⟨b, 3, none⟩ = some (.pointer (some ⟨s, 0, none⟩)) := (block_cell L5 3).trans (unhide HSp)
          obtain ⟨_, _, _, _, _, _, _, _, a8⟩ := step_cells (unhide HS) B5.drew hlt (unhide Hso)
          have HA5 := hide (show _ ∧ _ ∧ _ ∧ _ ∧ _ from ⟨L5, S5, R5, B5, lin5⟩)
          have XH := hide (show ∀ w : World, SndAt w s X2 → _ from fun w h => ghear_any X2 s o.hear w (unhide HA5).2.2.2.2.xo h (unhide Hoo).hear)
          clear L5 S5 R5 B5 lin5
          go_upto_region 15 with fail
          go_region_held3 (fun w' => w'.cell? ⟨b, 3, none⟩ = some (.pointer (some ⟨s, 0, none⟩)) ∧ w'.cell? ⟨sb, off + j * 9 + 8, none⟩ = some (.string (bs o.hear)))
            ((first | (exact ⟨cp, a8⟩) | (exact ⟨(block_cell (o6.keep (unhide HA5).1 hbs) 3).trans (unhide HSp), (step_cells (unhide HS) (below_only (unhide HA5).2.2.2.1.drew o6 (fun k hk => by omega)) hlt (unhide Hso)).2.2.2.2.2.2.2.2⟩)))
            ((go_at_call 42; refine (unhide XH _ (at_drew (unhide HA5).2.1)).mono ?_; rintro e w6 ⟨rfl, h6, o6⟩))
          all_goals
            have HA6 := hide (show _ ∧ _ from ⟨h6, o6⟩)
            clear h6 o6 cp a8
            go_wp2_with fail
            go_roundw
            case rel =>
              obtain ⟨h6, o6⟩ := unhide HA6
              obtain ⟨L5, S5, R5, B5, lin5⟩ := unhide HA5
              exact ⟨j + 1, m2, _, Y5, by omega, by go_num, (unhide HSt).m2s, (unhide HSt).m2r, lin5.hear o.hear, LinAt.make (o6.keep (at_drew L5) hbs) h6 (o6.keep (at_drew R5) (fun e => hsy e.symm)) hbs hby hsy (unhide HSt).m2s (unhide HSt).m2r, below_only B5.drew o6 (fun k hk => by omega)⟩
            case measure => simp [intOf]; omega
    · have hge : ¬ ((j : Int) < (S.length : Int)) := by omega
      have hbl := block_lt (hat.parts hms hmr).1
      have hsl := block_lt (hat.parts hms hmr).2.1
      have hyl := block_lt (hat.parts hms hmr).2.2.1
      have A0 : LinAt (wr.alloc (.cells #[.bool false, .bool false, .bool false, .bool false, .bool false, .bool false, .bool false, .bool false] 105)) b m X Y := ⟨block_alloc hat.ln _, block_alloc hat.snd _, block_alloc hat.rcv _, hat.bs, hat.br, hat.sr⟩
      have B0 : Below W.heap.size W (wr.alloc (.cells #[.bool false, .bool false, .bool false, .bool false, .bool false, .bool false, .bool false, .bool false] 105)) := grew_alloc hbel _
      have G0 : HealAt (wr.alloc (.cells #[.bool false, .bool false, .bool false, .bool false, .bool false, .bool false, .bool false, .bool false] 105)) wr.heap.size (List.replicate 8 false) := heap_alloc_new wr _
      have HLin := hide hlin
      have Hms := hide hms
      have Hmr := hide hmr
      have HA0 := hide A0
      have HB0 := hide B0
      have HG0 := hide G0
      clear hlin hat hbel hms hmr A0 B0 G0
      go_wp2_with fail
      generalize wr.alloc (.cells #[.bool false, .bool false, .bool false, .bool false, .bool false, .bool false, .bool false, .bool false] 105) = wz at HA0 HB0 HG0 ⊢
      generalize wr.heap.size = g at HG0 hbl hsl hyl ⊢
      go_loopw [17] (fun i wq => ∃ (j : Nat) (m : Ln) (X : Snd) (Y : Rcv) (H : List Bool), j ≤ S2.length ∧ i = .int .i64 j ∧ m.s = s ∧ m.r = y ∧ Lin m X Y ∧ LinAt wq b m X Y ∧ Below W.heap.size W wq ∧ H.length = 8 ∧ HealAt wq g H ∧ Well X Y H) (fun i _ => S2.length - (intOf i).toNat)
      case atStart => exact ⟨0, m, X, Y, List.replicate 8 false, by omega, rfl, unhide Hms, unhide Hmr, unhide HLin, unhide HA0, unhide HB0, by simp, unhide HG0, well_none X Y⟩
      case round =>
        clear HLin Hms Hmr HA0 HB0 HG0
        obtain ⟨j, m, X, Y, H, hj, rfl, hms, hmr, hlin, hat, hbel, hH, hG, hwell⟩ := hrel
        by_cases hlt : j < S2.length
        · obtain ⟨o, ho⟩ : ∃ o, S2.getD j Sp.zero = o := ⟨_, rfl⟩
          have hoo : o.ok := ho ▸ unhide HO2 j hlt
          obtain rfl : ao2 = some ⟨sb2, off2, none⟩ := (unhide HS2).addr (by omega)
          obtain ⟨s0, s1, s2, s3, s4, s5, s6, s7, s8⟩ := step_cells (unhide HS2) hbel hlt ho
          obtain ⟨L0, S0, R0, hbs, hby, hsy⟩ := hat.parts hms hmr
          obtain ⟨P, F, D, N, X2, m1, m2, st⟩ := one_step (b := b) hlin hoo hms hmr
          have XP := hide st.packet
          have XS := hide st.send
          have hD8 := st.d8
          have hfl := st.fl
          have hN := st.nr
          have hNc := st.since
          have hRc : m2.cells[2]? = some (.int .i64 (m2.refresh : Nat)) := by rw [Ln.get0 m2 2 (by omega)]; rfl
          obtain ⟨Rf, hRf⟩ : ∃ Rf, Rf = m2.refresh := ⟨_, rfl⟩
          rw [← hRf] at hRc hN
          have hSp : m2.cells[3]? = some (.pointer (some ⟨s, 0, none⟩)) := by rw [Ln.get0 m2 3 (by omega), ← st.m2s]; rfl
          have hRp : m2.cells[4]? = some (.pointer (some ⟨y, 0, none⟩)) := by rw [Ln.get0 m2 4 (by omega), ← st.m2r]; rfl
          have hbl := block_lt L0
          have hsl := block_lt S0
          have hyl := block_lt R0
          have hrf := st.lin.mo.r100
          have hNI : ¬ ((Rf : Int) ≤ (N : Int)) := by omega
          have hNd : decide ((Rf : Int) ≤ (N : Int)) = false := decide_eq_false hNI
          have hD0 : (0 : Int) ≤ (D : Int) := by omega
          have hDI : (D : Int) < 8 := by omega
          have hjI : (j : Int) < (S2.length : Int) := by omega
          have hj0 : (0 : Int) ≤ (j : Int) := by omega
          have HSt := hide st
          have HL0 := hide L0
          have HS0 := hide S0
          have HR0 := hide R0
          have HBel := hide hbel
          have Hso := hide ho
          have Hoo := hide hoo
          have HNc := hide hNc
          have HRc := hide hRc
          have HSp := hide hSp
          have HRp := hide hRp
          have HG0 := hide hG
          have HWell := hide hwell
          have HXo := hide hlin.xo
          clear hG hwell
          clear st L0 S0 R0 hbel ho hoo hNc hRc hSp hRp hat hms hmr hlin hRf hrf
          unfold Sp.cells at XP
          go_upto_region 22 with (first
            | (go_at_call 39; refine (unhide XP _ (unhide HL0)).mono ?_; unfold Pk.cells; rintro e w1 ⟨rfl, h1, o1⟩; have HL1 := hide h1; have HO1 := hide o1; clear h1 o1)
            | (go_at_call 40; refine (unhide XS _ (block_alloc (unhide HL1) _) (block_alloc ((unhide HO1).keep (unhide HS0) (by omega)) _) hbs).mono ?_; rintro e w2 ⟨rfl, h2, g2, o2⟩; have hz := (unhide HO1).size; have P2 : w2.heap[w1.heap.size]? = some (.cells P.cells 51 (0, 0)) := o2.keep (heap_alloc_new w1 _) (by omega); have HG2 := hide (show HealAt w2 g H from o2.keep (block_alloc ((unhide HO1).keep (unhide HG0) (by omega)) _) (by omega)); have HL2 := hide h2; have HSn2 := hide g2; have HO2' := hide o2; have HP2 := hide P2; clear h2 g2 o2 P2))
          have B2 : Below W.heap.size W w2 := below_only (grew_alloc (below_only (unhide HBel) (unhide HO1) (fun k hk => by omega)) _) (unhide HO2') (fun k hk => by omega)
          have R2 : RcvAt w2 y Y := (unhide HO2').keep (block_alloc ((unhide HO1).keep (unhide HR0) (by omega)) _) (by omega)
          have HR2 := hide R2
          have HB2 := hide B2
          have cs := (block_cell (unhide HL2) (93 + D)).trans (unhide HNc)
          have cr := (block_cell (unhide HL2) 2).trans (unhide HRc)
          clear R2 B2 s0 s1 s2 s3 s4 s5 s6 s7 s8 XP XS
          go_quiet (fail)
          have L3 : LnAt (w2.drewN nq) b m2 := at_drewN (unhide HL2) nq
          have S3 : SndAt (w2.drewN nq) s X2 := at_drewN (unhide HSn2) nq
          have R3 : RcvAt (w2.drewN nq) y Y := at_drewN (unhide HR2) nq
          have P3 := at_drewN (unhide HP2) nq
          have G3 : HealAt (w2.drewN nq) g H := at_drewN (unhide HG2) nq
          have B3 : Below W.heap.size W (w2.drewN nq) := below_drewN (unhide HB2) nq
          have hgw := block_lt (unhide HG0)
          have hzz := (unhide HO1).size
          clear cs cr HL2 HSn2 HR2 HP2 HB2 HO2' HO1 HL1 HL0 HS0 HR0 HBel HG2 HG0
          generalize w2.drewN nq = w3 at L3 S3 R3 P3 G3 B3 ⊢
          have hbg : b ≠ g := by omega
          have hsg : s ≠ g := by omega
          have hyg : y ≠ g := by omega
          have hpg : w1.heap.size ≠ g := by omega
          have hgW : W.heap.size ≤ g := by omega
          obtain ⟨hv, hhv⟩ : ∃ hv, hv = H.getD D false := ⟨_, rfl⟩
          have ch := G3.cell (i := D) (by omega)
          rw [← hhv] at ch
          have zh := block_free G3 D
          have cs := (block_cell L3 (93 + D)).trans (unhide HNc)
          have Hhv := hide hhv
          have HA3 := hide (show _ ∧ _ ∧ _ ∧ _ ∧ _ ∧ _ from ⟨L3, S3, R3, P3, G3, B3⟩)
          clear L3 S3 R3 P3 G3 B3 hhv
          obtain ⟨Q, hQ⟩ : ∃ Q, Q = (hv || decide (N = 0)) := ⟨_, rfl⟩
          have HQ := hide hQ
          clear hQ
          go_upto_region 24 with fail
          go_cut [19] (fun v wx => v = .string (bs F) ∧ LnAt wx b m2 ∧ SndAt wx s X2 ∧ RcvAt wx y Y ∧ wx.heap[w1.heap.size]? = some (.cells P.cells 51 (0, 0)) ∧ HealAt wx g (H.set D Q) ∧ Below W.heap.size W wx)
          case first =>
            cases hv with
            | true =>
              go_wp2_with fail
              go_meet
              case rel =>
                obtain ⟨L3, S3, R3, P3, G3, B3⟩ := unhide HA3
                rw [unhide HQ]
                exact ⟨rfl, block_set L3 (by exact hbg) _, block_set S3 (by exact hsg) _, block_set R3 (by exact hyg) _, block_set P3 (by exact hpg) _, G3.put D true, B3.setCell (by exact hgW) _⟩
            | false =>
              by_cases h0 : N = 0
              · have h0I : ((N : Int) == 0) = true := by rw [beq_iff_eq]; omega
                go_wp2_with fail
                go_meet
                case rel =>
                  obtain ⟨L3, S3, R3, P3, G3, B3⟩ := unhide HA3
                  rw [unhide HQ, decide_eq_true h0]
                  exact ⟨rfl, block_set L3 (by exact hbg) _, block_set S3 (by exact hsg) _, block_set R3 (by exact hyg) _, block_set P3 (by exact hpg) _, G3.put D true, B3.setCell (by exact hgW) _⟩
              · have h0I : ((N : Int) == 0) = false := by rw [beq_eq_false_iff_ne]; omega
                go_wp2_with fail
                go_meet
                case rel =>
                  obtain ⟨L3, S3, R3, P3, G3, B3⟩ := unhide HA3
                  rw [unhide HQ, decide_eq_false h0]
                  exact ⟨rfl, block_set L3 (by exact hbg) _, block_set S3 (by exact hsg) _, block_set R3 (by exact hyg) _, block_set P3 (by exact hpg) _, G3.put D false, B3.setCell (by exact hgW) _⟩
          case rest =>
            obtain ⟨rfl, L3, S3, R3, P3, G3, B3⟩ := hcut
            clear HA3 ch zh cs
            generalize wc = w4 at L3 S3 R3 P3 G3 B3 ⊢
            have ch := G3.cell (i := D) (by simp; omega)
            rw [getB_set _ _ _ _ (by omega), if_pos rfl] at ch
            obtain ⟨p0, p1, p2, p3, p4, p5, p6, p7⟩ := cells8 P3
            have cp := (block_cell L3 4).trans (unhide HRp)
            have HA4 := hide (show _ ∧ _ ∧ _ ∧ _ ∧ _ from ⟨L3, S3, R3, G3, B3⟩)
            clear L3 S3 R3 P3 G3 B3
            go_upto_if 150 with fail
            go_cut [21] (fun v wx => v = .bool true ∧ ∃ Y' : Rcv, LnAt wx b m2 ∧ SndAt wx s X2 ∧ RcvAt wx y Y' ∧ Below W.heap.size W wx ∧ Lin m2 X2 Y' ∧ HealAt wx g (H.set D Q) ∧ Well X2 Y' (H.set D Q))
            case first =>
              cases Q with
              | true =>
                have st := unhide HSt
                have hh : sendK X P = 3 ∨ H.getD (chooseN X P.src P.dst P.port) false = true := by
                  have h := (unhide HQ).symm
                  rw [unhide Hhv, Bool.or_eq_true, decide_eq_true_eq, st.n] at h
                  rw [← st.d]
                  rcases h with h | h
                  · exact Or.inr h
                  · left
                    by_cases hk : sendK X P = 3
                    · exact hk
                    · rw [if_neg hk] at h; omega
                obtain ⟨t1, t2, t3, wl⟩ := well_comes (unhide HXo) st.lin.yo hH (unhide HWell) st.pok st.pb (by rw [← st.d]; exact st.dc) hh
                rw [← st.f] at t1 t2 t3 wl
                rw [← st.d, ← st.x2] at wl
                have e2r := st.m2r
                have XC := hide (show ∀ w : World, LnAt w b m2 → RcvAt w y Y → Calls Try.prog 41 #[.pointer (some ⟨b, 0, none⟩), .string (bs F), .agg P.cells] w fun e w' => e = .returned (.bool true) ∧ RcvAt w' y (takeM Y F) ∧ Only (· = y) w w' by
                  intro w h1 h2; have := comes_any m2 b Y F P w st.lin.yo h1 (by rw [e2r]; exact h2) (by rw [e2r]; exact hby) (by omega) t1 t3 t2; rw [e2r] at this; exact this)
                have HWl := hide wl
                clear t1 t2 t3 wl st hh e2r
                go_wp2_with (go_at_call 41; refine (unhide XC _ (unhide HA4).1 (unhide HA4).2.2.1).mono ?_; rintro e w5 ⟨rfl, h5, o5⟩; have HA5 := hide (show _ ∧ _ from ⟨h5, o5⟩); clear h5 o5)
                go_meet
                case rel =>
                  obtain ⟨h5, o5⟩ := unhide HA5
                  obtain ⟨L3, S3, R3, G3, B3⟩ := unhide HA4
                  exact ⟨rfl, takeM Y F, o5.keep L3 hby, o5.keep S3 hsy, h5, below_only B3 o5 (fun k hk => by omega), (unhide HSt).lin.take F, o5.keep G3 (by omega), unhide HWl⟩
              | false =>
                have st := unhide HSt
                have wl := well_other (unhide HXo) st.lin.yo hH (unhide HWell) st.pok st.pb
                rw [← st.f, ← st.d, ← st.x2] at wl
                have HWl := hide wl
                have XT := hide (show ∀ w : World, RcvAt w y Y → _ from fun w h => gtake_any Y y F w st.lin.yo h (by omega))
                clear st wl
                go_wp2_with (go_at_call 44; refine (unhide XT _ (unhide HA4).2.2.1).mono ?_; rintro e w5 ⟨rfl, h5, o5⟩; have HA5 := hide (show _ ∧ _ from ⟨h5, o5⟩); clear h5 o5)
                go_meet
                case rel =>
                  obtain ⟨h5, o5⟩ := unhide HA5
                  obtain ⟨L3, S3, R3, G3, B3⟩ := unhide HA4
                  exact ⟨rfl, takeM Y F, o5.keep L3 hby, o5.keep S3 hsy, h5, below_only B3 o5 (fun k hk => by omega), (unhide HSt).lin.take F, o5.keep G3 (by omega), unhide HWl⟩
            case rest =>
              obtain ⟨rfl, Y5, L5, S5, R5, B5, lin5, G5, wl5⟩ := hcut
              clear HA4 ch p0 p1 p2 p3 p4 p5 p6 p7 cp
              generalize wc = w5 at L5 S5 R5 B5 G5 ⊢
              have cp : w5.drew.cell? ⟨b, 3, none⟩ = some (.pointer (some ⟨s, 0, none⟩)) := (block_cell L5 3).trans (unhide HSp)
              obtain ⟨_, _, _, _, _, _, _, _, a8⟩ := step_cells (unhide HS2) B5.drew hlt (unhide Hso)
              have HA5 := hide (show _ ∧ _ ∧ _ ∧ _ ∧ _ ∧ _ ∧ _ from ⟨L5, S5, R5, B5, lin5, G5, wl5⟩)
              have XH := hide (show ∀ w : World, SndAt w s X2 → _ from fun w h => ghear_any X2 s o.hear w (unhide HA5).2.2.2.2.1.xo h (unhide Hoo).hear)
              clear L5 S5 R5 B5 lin5 G5 wl5
              go_upto_region 30 with fail
              go_region_held3 (fun w' => w'.cell? ⟨b, 3, none⟩ = some (.pointer (some ⟨s, 0, none⟩)) ∧ w'.cell? ⟨sb2, off2 + j * 9 + 8, none⟩ = some (.string (bs o.hear)))
                ((first | (exact ⟨cp, a8⟩) | (exact ⟨(block_cell (o6.keep (unhide HA5).1 hbs) 3).trans (unhide HSp), (step_cells (unhide HS2) (below_only (unhide HA5).2.2.2.1.drew o6 (fun k hk => by omega)) hlt (unhide Hso)).2.2.2.2.2.2.2.2⟩)))
                ((go_at_call 42; refine (unhide XH _ (at_drew (unhide HA5).2.1)).mono ?_; rintro e w6 ⟨rfl, h6, o6⟩))
              all_goals
                have HA6 := hide (show _ ∧ _ from ⟨h6, o6⟩)
                clear h6 o6 cp a8
                go_wp2_with fail
                go_roundw
                case rel =>
                  obtain ⟨h6, o6⟩ := unhide HA6
                  obtain ⟨L5, S5, R5, B5, lin5, G5, wl5⟩ := unhide HA5
                  exact ⟨j + 1, m2, _, Y5, H.set D Q, by omega, by go_num, (unhide HSt).m2s, (unhide HSt).m2r, lin5.hear o.hear, LinAt.make (o6.keep (at_drew L5) hbs) h6 (o6.keep (at_drew R5) (fun e => hsy e.symm)) hbs hby hsy (unhide HSt).m2s (unhide HSt).m2r, below_only B5.drew o6 (fun k hk => by omega), by simp [hH], o6.keep (at_drew G5) (by omega), well_hear lin5.xo wl5 o.hear⟩
                case measure => simp [intOf]; omega
        · have hge2 : ¬ ((j : Int) < (S2.length : Int)) := by omega
          have HB9 := hide hbel
          clear hlin hat hbel hms hmr hG hwell
          go_wp2_with fail
          go_ret
          exact ⟨rfl, unhide HB9⟩

end Go.Proofs.Ytgpojbgjfibblaa.texts
