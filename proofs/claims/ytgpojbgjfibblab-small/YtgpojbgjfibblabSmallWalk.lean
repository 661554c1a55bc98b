/-
  The walk of Small (gistkeep).
  Conditions stand in each theorem.
-/
import Derived.Test.YtgpojbgjfibblabKeepBegun
import Derived.Test.YtgpojbgjfibblabPart40
namespace Go.Proofs.Ytgpojbgjfibblab.texts
open Go.RowKit
set_option linter.unusedVariables false
attribute [local go_sem ↓] Go.wp_at_zero Go.wp_at_succ
attribute [local go_sem] bs_size bs_extract bs_list

theorem at_drewN {w : World} {k : Nat} {O : Obj} (h : w.heap[k]? = some O) (n : Nat) : (w.drewN n).heap[k]? = some O := h

set_option maxRecDepth 100000 in
set_option maxHeartbeats 8000000 in
theorem small_any (a k r n : Int) (fp : Pk) (d : Nat) (W : World) (ha : Raw a) (hk : Raw k) (hr : Raw r) (hn : Raw n) (hf : fp.ok) (hfb : fp.body.length ≤ maxLen) (hd : d < 65536) :
    Calls Try.prog 3 #[.agg #[.int .i64 a, .int .i64 k, .int .i64 r], .int .i64 n, .agg fp.cells, .int .u16 d] W fun e w' => e = .returned (.bool true) ∧ Below W.heap.size W w' := by
  have hC1 := bits.pk_bd a 8 (by decide)
  have hK1 := bits.pk_bd k 4 (by decide)
  have hR1 := bits.pk_bd r 99 (by decide)
  obtain ⟨C, hC⟩ : ∃ C : Nat, 1 + bits.pk a 8 = (C : Int) := ⟨(1 + bits.pk a 8).toNat, by omega⟩
  obtain ⟨K, hK⟩ : ∃ K : Nat, 1 + bits.pk k 4 = (K : Int) := ⟨(1 + bits.pk k 4).toNat, by omega⟩
  obtain ⟨R, hR⟩ : ∃ R : Nat, 2 + bits.pk r 99 = (R : Int) := ⟨(2 + bits.pk r 99).toNat, by omega⟩
  have c1 : 1 ≤ C := by omega
  have c2 : C ≤ 8 := by omega
  have k1 : 1 ≤ K := by omega
  have k2 : K ≤ 4 := by omega
  have r1 : 2 ≤ R := by omega
  have r2 : R ≤ 100 := by omega
  have XB := hide (show ∀ w : World, _ from fun w => begun_any a k r w ha hk hr C K R hC hK hR)
  have hsq := hf.seq
  have hQ1 := bits.pk_bd fp.seq 65000 (by decide)
  obtain ⟨Q, hQ⟩ : ∃ Q : Nat, bits.pk fp.seq 65000 = (Q : Int) := ⟨(bits.pk fp.seq 65000).toNat, by omega⟩
  have hQ2 : Q < 65000 := by omega
  have XQ := hide (show ∀ w : World, Calls Try.prog 5 #[.int .i64 fp.seq, .int .i64 65000] w fun e w' => e = .returned (.int .i64 Q) ∧ w' = w by
    intro w; rw [← hQ]; exact bits.pick_any fp.seq 65000 w (by omega) (by omega) (by decide) (by decide))
  have hM1 := bits.pk_bd n 300 (by decide)
  obtain ⟨M, hM⟩ : ∃ M : Nat, bits.pk n 300 = (M : Int) := ⟨(bits.pk n 300).toNat, by omega⟩
  have hM2 : M < 300 := by omega
  have XM := hide (show ∀ w : World, Calls Try.prog 5 #[.int .i64 n, .int .i64 300] w fun e w' => e = .returned (.int .i64 M) ∧ w' = w by
    intro w; rw [← hM]; exact bits.pick_any n 300 w hn.1 hn.2 (by decide) (by decide))
  obtain ⟨A, hA⟩ : ∃ A, A = srcN 11 := ⟨_, rfl⟩
  obtain ⟨B, hB⟩ : ∃ B, B = dstN 11 := ⟨_, rfl⟩
  obtain ⟨E, hE⟩ : ∃ E, E = portN 11 := ⟨_, rfl⟩
  have XR := hide (show ∀ w : World, Calls Try.prog 6 #[.int .i64 11] w fun e w' => e = .returned (.agg #[.int .u32 A, .int .u32 B, .int .u16 E]) ∧ Below w.heap.size w w' by
    intro w; rw [hA, hB, hE]; exact kroute_any 11 w (by decide))
  have HW := hide (show Below W.heap.size W ((W.alloc (.cells #[.int .i64 a, .int .i64 k, .int .i64 r] 23)).alloc (.cells fp.cells 29)) from ((Below.refl _ _).alloc (Nat.le_refl _) _).alloc (by simp) _)
  have HF0 := hide (show ((W.alloc (.cells #[.int .i64 a, .int .i64 k, .int .i64 r] 23)).alloc (.cells fp.cells 29)).heap[W.heap.size + 1]? = some (.cells fp.cells 29 (0, 0)) by
    have := heap_alloc_new (W.alloc (.cells #[.int .i64 a, .int .i64 k, .int .i64 r] 23)) (.cells fp.cells 29)
    simpa using this)
  have HABE := hide (show A = srcN 11 ∧ B = dstN 11 ∧ E = portN 11 from ⟨hA, hB, hE⟩)
  have Hf := hide hf
  have hbl : (fp.body.length : Int) ≤ 9223372036854775807 := by unfold maxLen at hfb; omega
  have wQ := wrap16 (show Q < 65536 by omega)
  clear hC1 hK1 hR1 hC hK hR ha hk hr hQ1 hQ hM1 hM hn hA hB hE hf hfb
  unfold Pk.cells
  go_enter Try.func3, Try.ntmps3
  go_upto_region 7 with (first
    | (go_at_call 4; refine (unhide XB _).mono ?_; rintro e w1 ⟨b, s, y, rfl, hb0, hs0, hy0, hat, hbel⟩; have hb : W.heap.size ≤ b := Nat.le_trans (by simp; omega) hb0; have hs : W.heap.size ≤ s := Nat.le_trans (by simp; omega) hs0; have hy : W.heap.size ≤ y := Nat.le_trans (by simp; omega) hy0; clear hb0 hs0 hy0; have hz1 := block_lt (block_keep (unhide HF0) hbel); obtain ⟨p0, p1, p2, p3, p4, p5, p6, p7⟩ := cells8 (block_keep (unhide HF0) hbel); have HBl := hide (show Below W.heap.size W w1 from grew_call (unhide HW) hbel); have HAt := hide hat; clear hat hbel)
    | (go_at_call 5; refine (unhide XQ _).mono ?_; rintro e w' ⟨rfl, rfl⟩)
    | (go_at_call 6; refine (unhide XR _).mono ?_; rintro e w2 ⟨rfl, hb2⟩; have P2 : w2.heap[w1.heap.size]? = some (.cells (Pk.cells ⟨fp.src, fp.dst, fp.port, Q, fp.time, fp.id, fp.flags, fp.body⟩) 29 (0, 0)) := block_keep (heap_alloc_new w1 _) hb2; obtain ⟨u0, u1, u2, u3, u4, u5, u6, u7⟩ := cells8 P2; obtain ⟨f0, f1, f2, f3, f4, f5, f6, f7⟩ := free8 P2; have HP2 := hide P2; have HB2 := hide hb2; clear P2 hb2))
  have hat := unhide HAt
  have hbl1 := block_lt hat.ln
  have hsl1 : s < w1.heap.size := block_lt hat.snd
  have hyl1 : y < w1.heap.size := block_lt hat.rcv
  have P3 : (((w2.setCell ⟨w1.heap.size, 0, none⟩ (.int .u32 (A : Int))).setCell ⟨w1.heap.size, 1, none⟩ (.int .u32 (B : Int))).setCell ⟨w1.heap.size, 2, none⟩ (.int .u16 (E : Int))).heap[w1.heap.size]? = some (.cells (Pk.cells ⟨A, B, E, Q, fp.time, fp.id, fp.flags, fp.body⟩) 29 (0, 0)) := by
    have e0 := heap_setCell_same w2 w1.heap.size 0 _ _ (.int .u32 (A : Int)) (unhide HP2)
    have e1 := heap_setCell_same _ w1.heap.size 1 _ _ (.int .u32 (B : Int)) e0
    exact heap_setCell_same _ w1.heap.size 2 _ _ (.int .u16 (E : Int)) e1
  have A3 : LinAt (((w2.setCell ⟨w1.heap.size, 0, none⟩ (.int .u32 (A : Int))).setCell ⟨w1.heap.size, 1, none⟩ (.int .u32 (B : Int))).setCell ⟨w1.heap.size, 2, none⟩ (.int .u16 (E : Int))) b (firstL C K R s y) (sendM (freshN C K R) firstP) (takeM (freshR C) (sendF (freshN C K R) firstP)) :=
    ⟨block_set (block_set (block_set (block_keep (block_alloc hat.ln _) (unhide HB2)) (by exact Nat.ne_of_lt hbl1) _) (by exact Nat.ne_of_lt hbl1) _) (by exact Nat.ne_of_lt hbl1) _,
     block_set (block_set (block_set (block_keep (block_alloc hat.snd _) (unhide HB2)) (by exact Nat.ne_of_lt hsl1) _) (by exact Nat.ne_of_lt hsl1) _) (by exact Nat.ne_of_lt hsl1) _,
     block_set (block_set (block_set (block_keep (block_alloc hat.rcv _) (unhide HB2)) (by exact Nat.ne_of_lt hyl1) _) (by exact Nat.ne_of_lt hyl1) _) (by exact Nat.ne_of_lt hyl1) _, hat.bs, hat.br, hat.sr⟩
  have hpW : W.heap.size ≤ w1.heap.size := (unhide HBl).size
  have B3 : Below W.heap.size W (((w2.setCell ⟨w1.heap.size, 0, none⟩ (.int .u32 (A : Int))).setCell ⟨w1.heap.size, 1, none⟩ (.int .u32 (B : Int))).setCell ⟨w1.heap.size, 2, none⟩ (.int .u16 (E : Int))) :=
    (((grew_call (grew_alloc (unhide HBl) _) (unhide HB2)).setCell (by exact hpW) _).setCell (by exact hpW) _).setCell (by exact hpW) _
  clear u0 u1 u2 u3 u4 u5 u6 u7 f0 f1 f2 f3 f4 f5 f6 f7 p0 p1 p2 p3 p4 p5 p6 p7 HP2 HB2 HAt HBl hat XB XQ XR HF0 HW
  generalize ((w2.setCell ⟨w1.heap.size, 0, none⟩ (.int .u32 (A : Int))).setCell ⟨w1.heap.size, 1, none⟩ (.int .u32 (B : Int))).setCell ⟨w1.heap.size, 2, none⟩ (.int .u16 (E : Int)) = w3 at P3 A3 B3 ⊢
  generalize w1.heap.size = pb at P3 hbl1 hsl1 hyl1 hpW hz1 ⊢
  have u7 := (cells8 P3).2.2.2.2.2.2.2
  have z7 := block_free P3 7
  have HP3 := hide P3
  have HA3 := hide A3
  have HB3 := hide B3
  clear P3 A3 B3
  obtain ⟨T, hT⟩ : ∃ T : List UInt8, T = fp.body.take 100 := ⟨_, rfl⟩
  have HT := hide hT
  have hT100 : T.length ≤ 100 := by rw [hT]; exact take100 _
  clear hT
  go_upto_if 38 with fail
  go_cut [9] (fun v wx => v = .pointer (some ⟨b, 0, none⟩) ∧ wx.heap[pb]? = some (.cells (Pk.cells ⟨A, B, E, Q, fp.time, fp.id, fp.flags, T⟩) 29 (0, 0)) ∧ LinAt wx b (firstL C K R s y) (sendM (freshN C K R) firstP) (takeM (freshR C) (sendF (freshN C K R) firstP)) ∧ Below W.heap.size W wx)
  case first =>
    by_cases hlong : 100 < fp.body.length
    · have g100 : (100 : Int) ≤ (fp.body.length : Int) := by omega
      have g101 : (100 : Int) < (fp.body.length : Int) := by omega
      go_wp2_with fail
      go_meet
      case rel =>
        rw [unhide HT]
        refine ⟨rfl, heap_setCell_same w3 pb 7 _ _ _ (unhide HP3), ⟨block_set (unhide HA3).ln (by exact Nat.ne_of_lt hbl1) _, block_set (unhide HA3).snd (by exact Nat.ne_of_lt hsl1) _, block_set (unhide HA3).rcv (by exact Nat.ne_of_lt hyl1) _, (unhide HA3).bs, (unhide HA3).br, (unhide HA3).sr⟩, (unhide HB3).setCell (by exact hpW) _⟩
    · have g101 : ¬ ((100 : Int) < (fp.body.length : Int)) := by omega
      go_wp2_with fail
      go_meet
      case rel =>
        rw [unhide HT, List.take_of_length_le (by omega)]
        exact ⟨rfl, unhide HP3, unhide HA3, unhide HB3⟩
  case rest =>
    obtain ⟨rfl, P4, A4, B4⟩ := hcut
    clear HP3 HA3 HB3 u7 z7
    generalize wc = w4 at P4 A4 B4 ⊢
    have po : Pk.ok ⟨A, B, E, Q, fp.time, fp.id, fp.flags, T⟩ := by
      obtain ⟨rfl, rfl, rfl⟩ := unhide HABE
      have o := unhide Hf
      exact ⟨srcN_lt 11, dstN_lt 11, portN_lt 11, by show Q < 65536; omega, o.time, o.id, o.flags⟩
    obtain ⟨lin0, both0⟩ := first_lin s y c1 c2 k1 k2 r1 r2
    have row0 : Row K (metN (sendM (freshN C K R) firstP) ⟨A, B, E, Q, fp.time, fp.id, fp.flags, T⟩) ⟨A, B, E, Q, fp.time, fp.id, fp.flags, T⟩ d 0 := by
      obtain ⟨z, hz⟩ := met_first (fresh_ok c1 c2 k1 k2 r1 r2) firstP ⟨A, B, E, Q, fp.time, fp.id, fp.flags, T⟩ (by show A ≠ srcN 0; rw [(unhide HABE).1]; decide) lin0.xo
      rw [hz]
      exact row_begin z ⟨A, B, E, Q, fp.time, fp.id, fp.flags, T⟩ d (by show Q ≤ 65000; omega)
    have HI := hide (show _ ∧ _ ∧ _ ∧ _ ∧ _ ∧ _ ∧ _ from ⟨lin0, both0, A4, B4, P4, po, row0⟩)
    clear lin0 both0 A4 B4 P4 po row0
    go_wp2_with fail
    go_loopw [12] (fun i wr => ∃ (q : Nat) (m : Ln) (X : Snd) (Y : Rcv) (p : Pk), q ≤ M ∧ i = .int .i64 ((q + 1 : Nat) : Int) ∧ m.s = s ∧ m.r = y ∧ Lin m X Y ∧ Both X Y (List.replicate 8 0) ∧ LinAt wr b m X Y ∧ Below W.heap.size W wr ∧ wr.heap[pb]? = some (.cells p.cells 29 (0, 0)) ∧ p.ok ∧ p.body.length ≤ 100 ∧ Row X.keep (metN X p) p d q) (fun i _ => M + 1 - (intOf i).toNat)
    case atStart =>
      obtain ⟨lin0, both0, A4, B4, P4, po, row0⟩ := unhide HI
      exact ⟨0, _, _, _, _, by omega, rfl, rfl, rfl, lin0, both0, A4, B4, P4, po, hT100, row0⟩
    case round =>
      obtain ⟨q, m, X, Y, p, hq, rfl, hms, hmr, hlin, hboth, hat, hbel, hP, hpo, hpb, hrow⟩ := hrel
      clear HI
      by_cases hlt : q + 1 ≤ M
      · have hltI : ((q + 1 : Nat) : Int) ≤ (M : Int) := by omega
        have L0 := hat.ln
        have S0 : SndAt wr s X := by rw [← hms]; exact hat.snd
        have R0 : RcvAt wr y Y := by rw [← hmr]; exact hat.rcv
        have hbs : b ≠ s := by rw [← hms]; exact hat.bs
        have hby : b ≠ y := by rw [← hmr]; exact hat.br
        have hsy : s ≠ y := by rw [← hms, ← hmr]; exact hat.sr
        have hpw := block_lt hP
        have hkk := hlin.xk
        obtain ⟨kf, hfit⟩ := hlin.fit
        have hDc := hlin.choose p
        have hD8 := chooseN_lt hlin.xo p.src p.dst p.port
        have hX2o := (hlin.send hpo).xo
        have hag := hlin.aged _ hD8
        obtain ⟨t1, t2, t3, _, both2⟩ := both_comes hlin.xo hlin.yo (by simp) hboth hpo hpb (by rw [hlin.yc]; exact hDc)
        rw [List.set_replicate_self] at both2
        obtain ⟨hf0, hf2⟩ := frame_first hlin.xo hpo
        have hfl := frame_short hlin.xo hpb
        have hk3 : sendK X p ≤ 3 := kindN_le _ _ _
        have htn := (met_ok hlin.xo hpo).turn
        have lin2 := hlin.send hpo
        have hkind : X.keep + 1 ≤ q → sendK X p = 0 ∨ (sendK X p = 3 ∧ X.refresh ≤ (metN X p).age + 1) := fun h => row_kind hrow hlin.xo.k1 hlin.xo.k4 hd h (by omega) X.refresh
        have hflen : sendK X p = 0 → (sendF X p).length = 2 + p.body.length := fun h => by
          unfold sendF frameN toldN
          rw [h]
          simp [be_length]
          omega
        have row2 : Row (sendM X p).keep (metN (sendM X p) (goP p d)) (goP p d) d (q + 1) := by
          rw [(met_again hlin.xo hfit p (goP p d) rfl rfl rfl hX2o).2]
          exact row_send hrow hpo hlin.xo.k1 hlin.xo.k4 hd (by omega) X.refresh
        have hold : 0 < q → metN X p = X.at_ (chooseN X p.src p.dst p.port) ∧ 0 < (X.at_ (chooseN X p.src p.dst p.port)).kept := fun h => by
          have hk0 := hrow.kept
          have h1 := hlin.xo.k1
          unfold metN at hk0 ⊢
          simp only at hk0 ⊢
          split
          · rename_i hh
            simp [Cx.hasB] at hh
            exact ⟨rfl, hh.1⟩
          · rename_i hh
            rw [if_neg hh] at hk0
            simp only [beginN] at hk0
            omega
        have XS0 := fun (w : World) (h1 : LnAt w b m) (h2 : SndAt w m.s X) (h3 : b ≠ m.s) => ksend_any m b X p w hlin.mo hlin.xo hpo hpb h1 h2 h3 hlin.cnt hDc (fun i => by have := hlin.since i; omega)
        rw [hms] at XS0
        obtain ⟨e0, e1, e2, e3, e4, e5, e6, e7, hse⟩ := list8 hlin.mo.since
        have gS : ∀ i, i < 8 → wr.cell? ⟨b, 93 + i, none⟩ = some (.int .i64 (([e0, e1, e2, e3, e4, e5, e6, e7].getD i 0 : Nat) : Int)) := fun i hi => by
          rw [← hse]
          exact (block_cell L0 (93 + i)).trans (Ln.getSince hlin.mo i hi)
        have g0 : wr.cell? ⟨b, 93, none⟩ = some (.int .i64 (e0 : Int)) := gS 0 (by omega)
        have g1 : wr.cell? ⟨b, 94, none⟩ = some (.int .i64 (e1 : Int)) := gS 1 (by omega)
        have g2 : wr.cell? ⟨b, 95, none⟩ = some (.int .i64 (e2 : Int)) := gS 2 (by omega)
        have g3 : wr.cell? ⟨b, 96, none⟩ = some (.int .i64 (e3 : Int)) := gS 3 (by omega)
        have g4 : wr.cell? ⟨b, 97, none⟩ = some (.int .i64 (e4 : Int)) := gS 4 (by omega)
        have g5 : wr.cell? ⟨b, 98, none⟩ = some (.int .i64 (e5 : Int)) := gS 5 (by omega)
        have g6 : wr.cell? ⟨b, 99, none⟩ = some (.int .i64 (e6 : Int)) := gS 6 (by omega)
        have g7 : wr.cell? ⟨b, 100, none⟩ = some (.int .i64 (e7 : Int)) := gS 7 (by omega)
        obtain ⟨F, hF⟩ : ∃ F, F = sendF X p := ⟨_, rfl⟩
        obtain ⟨X2, hX2⟩ : ∃ X2, X2 = sendM X p := ⟨_, rfl⟩
        obtain ⟨D, hD⟩ : ∃ D, D = chooseN X p.src p.dst p.port := ⟨_, rfl⟩
        obtain ⟨Kd, hKd⟩ : ∃ Kd, Kd = sendK X p := ⟨_, rfl⟩
        obtain ⟨Sd, hSd⟩ : ∃ Sd, Sd = m.since.getD D 0 := ⟨_, rfl⟩
        rw [← hF] at XS0 t1 t2 t3 both2 hf0 hf2 hfl hflen
        rw [← hX2] at XS0 both2 lin2 row2
        rw [← hD] at XS0 hDc hD8 lin2 hf0 hag hold
        rw [← hKd] at XS0 lin2 hf0 hk3 hkind hflen
        rw [← hSd] at XS0 lin2 hag
        obtain ⟨N, hN⟩ : ∃ N, N = (if Kd = 3 then 0 else Sd + 1) := ⟨_, rfl⟩
        rw [← hN] at XS0 lin2
        obtain ⟨m2, hm2⟩ : ∃ m2, m2 = m.setSince D N := ⟨_, rfl⟩
        rw [← hm2] at XS0 lin2
        have e2s : m2.s = s := by rw [hm2]; exact hms
        have e2r : m2.r = y := by rw [hm2]; exact hmr
        have hNc : m2.cells[93 + D]? = some (.int .i64 (N : Nat)) := by
          rw [Ln.getSince lin2.mo D hD8, hm2]
          show some (Value.int .i64 (((m.since.set D N).getD D 0 : Nat) : Int)) = _
          rw [getD_set _ _ _ _ (by rw [hlin.mo.since]; omega), if_pos rfl]
        have hKc : m2.cells[1]? = some (.int .i64 (m2.keep : Nat)) := by rw [Ln.get0 m2 1 (by omega)]; rfl
        have hRc : m2.cells[2]? = some (.int .i64 (m2.refresh : Nat)) := by rw [Ln.get0 m2 2 (by omega)]; rfl
        have ek : X.keep = m2.keep := by rw [hkk, hm2]; rfl
        have er : X.refresh = m2.refresh := by rw [hlin.xr, hm2]; rfl
        rw [er] at hag hkind
        rw [ek] at hkind
        obtain ⟨Kp, hKp⟩ : ∃ Kp, Kp = m2.keep := ⟨_, rfl⟩
        obtain ⟨Rf, hRf⟩ : ∃ Rf, Rf = m2.refresh := ⟨_, rfl⟩
        have hk1 := lin2.mo.k1
        have hk4 := lin2.mo.k4
        have hr2 := lin2.mo.r2
        have hr100 := lin2.mo.r100
        rw [← hKp] at hKc hkind hk1 hk4
        rw [← hRf] at hRc hag hkind hr2 hr100
        have final : Kp + 1 ≤ q → Kd = 0 ∨ (N = 0 ∧ Sd = Rf - 1) := fun h => by
          obtain ⟨o1, o2⟩ := hold (by omega)
          obtain ⟨a1, a2⟩ := hag o2
          rcases hkind h with h0 | ⟨h3, hre⟩
          · exact Or.inl h0
          · right
            rw [o1] at hre
            refine ⟨by rw [hN, if_pos h3], by omega⟩
        have hbD : #[Value.int .i64 (e0 : Int), .int .i64 (e1 : Int), .int .i64 (e2 : Int), .int .i64 (e3 : Int), .int .i64 (e4 : Int), .int .i64 (e5 : Int), .int .i64 (e6 : Int), .int .i64 (e7 : Int)][D]? = some (.int .i64 (Sd : Int)) := by
          rw [hSd, hse]
          have : D = 0 ∨ D = 1 ∨ D = 2 ∨ D = 3 ∨ D = 4 ∨ D = 5 ∨ D = 6 ∨ D = 7 := by omega
          rcases this with h | h | h | h | h | h | h | h <;> (rw [h]; rfl)
        have XC := hide (show ∀ w : World, LnAt w b m2 → RcvAt w y Y → Calls Try.prog 8 #[.pointer (some ⟨b, 0, none⟩), .string (bs F), .agg p.cells] w fun e w' => e = .returned (.bool true) ∧ RcvAt w' y (takeM Y F) ∧ Only (· = y) w w' by
          intro w h1 h2; have := comes_any m2 b Y F p w hlin.yo h1 (by rw [e2r]; exact h2) (by rw [e2r]; exact hby) (by omega) t1 t3 t2; rw [e2r] at this; exact this)
        have XS := hide XS0
        obtain ⟨By, hBy⟩ : ∃ By, By = byteN F 0 := ⟨_, rfl⟩
        rw [← hBy] at hf0
        have h0 : 0 < (bs F).size := by rw [bs_size]; omega
        have hbyt := byte_at F 0 (by omega) h0
        rw [← hBy] at hbyt
        have q2 : (By : Int) / 64 = (Kd : Int) := by omega
        have hB256 : By < 256 := by omega
        have lin3 := lin2.take F
        have HFin := hide (show _ ∧ _ ∧ _ ∧ _ from ⟨final, lin3, both2, row2⟩)
        have hsl := block_lt S0
        have hyl := block_lt R0
        have hblw := block_lt L0
        have hD0 : (0 : Int) ≤ (D : Int) := by omega
        have hDI : (D : Int) < 8 := by omega
        obtain ⟨p0, p1, p2, p3, p4, p5, p6, p7⟩ := cells8 hP
        have HL0 := hide L0
        have HS0 := hide S0
        have HR0 := hide R0
        have HP0 := hide hP
        have HB0 := hide hbel
        have HNc := hide hNc
        have HKc := hide hKc
        have HRc := hide hRc
        have HbD := hide hbD
        have Hpo := hide hpo
        have Hfl := hide hflen
        clear L0 S0 R0 hP hbel hNc hKc hRc hbD hpo hflen lin3 final both2 row2 hold hkind hag hat hms hmr hlin hboth hrow XS0 hF hX2 hD hKd hSd hN hm2 hKp hRf hBy ek er hse gS t1 t2 t3 lin2 hX2o hfit hDc hkk hf0
        go_upto_region 19 with (first
          | (go_at_call 5; refine (unhide XM _).mono ?_; rintro e w' ⟨rfl, hw'⟩; have hw2 := hw'.symm; subst hw2)
          | (go_at_call 7; refine (unhide XS _ (block_alloc (unhide HL0) _) (block_alloc (unhide HS0) _) hbs).mono ?_; rintro e w5 ⟨rfl, h5, g5', o5⟩; have A5 := o5.keep (heap_alloc_new wr _) (by omega); have P5 := o5.keep (block_alloc (unhide HP0) _) (by omega); obtain ⟨v0, v1, v2, v3, v4, v5, v6, v7⟩ := cells8 P5; have HL5 := hide h5; have HS5 := hide g5'; have HO5 := hide o5; have HA5 := hide A5; have HP5 := hide P5; clear h5 g5' o5 A5 P5)
          | (go_at_call 8; refine (unhide XC _ (unhide HL5) ((unhide HO5).keep (block_alloc (unhide HR0) _) (by omega))).mono ?_; rintro e w6 ⟨rfl, h6, o6⟩; have HR6 := hide h6; have HO6 := hide o6; clear h6 o6))
        have U6 : LnAt w6 b m2 ∧ SndAt w6 s X2 ∧ RcvAt w6 y (takeM Y F) ∧ w6.heap[pb]? = some (.cells p.cells 29 (0, 0)) ∧ w6.heap[wr.heap.size]? = some (.cells #[.int .i64 (e0 : Int), .int .i64 (e1 : Int), .int .i64 (e2 : Int), .int .i64 (e3 : Int), .int .i64 (e4 : Int), .int .i64 (e5 : Int), .int .i64 (e6 : Int), .int .i64 (e7 : Int)] 39 (0, 0)) ∧ Below W.heap.size W w6 :=
          ⟨(unhide HO6).keep (unhide HL5) (by omega), (unhide HO6).keep (unhide HS5) (by omega), unhide HR6, (unhide HO6).keep (unhide HP5) (by omega), (unhide HO6).keep (unhide HA5) (by omega), below_only (below_only (grew_alloc (unhide HB0) _) (unhide HO5) (fun k hk => by omega)) (unhide HO6) (fun k hk => by omega)⟩
        have HU := hide U6
        clear U6 p0 p1 p2 p3 p4 p5 p6 p7 v0 v1 v2 v3 v4 v5 v6 v7 g0 g1 g2 g3 g4 g5 g6 g7 HL5 HS5 HR6 HP5 HA5 HO5 HO6 HL0 HS0 HR0 HP0 HB0 XS XC
        have v7 := (cells8 (unhide HU).2.2.2.1).2.2.2.2.2.2.2
        obtain ⟨TN, hTN⟩ : ∃ TN, TN = decide (Kd = 0) := ⟨_, rfl⟩
        obtain ⟨WL, hWL⟩ : ∃ WL, WL = (decide (N = 0) && decide (Sd = Rf - 1)) := ⟨_, rfl⟩
        have HTN := hide hTN
        have HWL := hide hWL
        clear hTN hWL
        go_cut [17] (fun v wx => v = .bool TN ∧ LnAt wx b m2 ∧ SndAt wx s X2 ∧ RcvAt wx y (takeM Y F) ∧ wx.heap[pb]? = some (.cells p.cells 29 (0, 0)) ∧ wx.heap[wr.heap.size]? = some (.cells #[.int .i64 (e0 : Int), .int .i64 (e1 : Int), .int .i64 (e2 : Int), .int .i64 (e3 : Int), .int .i64 (e4 : Int), .int .i64 (e5 : Int), .int .i64 (e6 : Int), .int .i64 (e7 : Int)] 39 (0, 0)) ∧ Below W.heap.size W wx)
        case first =>
          by_cases hk0 : Kd = 0
          · have hle := unhide Hfl hk0
            have hleI : (F.length : Int) = 2 + (p.body.length : Int) := by omega
            have q20 : (By : Int) / 64 = 0 := by omega
            clear q2
            go_wp2_with fail
            go_meet
            case rel => exact ⟨by rw [unhide HTN, decide_eq_true hk0], unhide HU⟩
          · have q20 : ((By : Int) / 64 == 0) = false := by rw [beq_eq_false_iff_ne]; omega
            have q21 : ¬ ((By : Int) / 64 = 0) := by omega
            clear q2
            go_wp2_with fail
            go_meet
            case rel => exact ⟨by rw [unhide HTN, decide_eq_false hk0], unhide HU⟩
        case rest =>
          obtain ⟨rfl, U7⟩ := hcut
          clear HU v7 q2 hbyt
          generalize wc = w7 at U7 ⊢
          have cN := (block_cell U7.1 (93 + D)).trans (unhide HNc)
          have cR := (block_cell U7.1 2).trans (unhide HRc)
          have cK := (block_cell U7.1 1).trans (unhide HKc)
          have cB := (block_cell U7.2.2.2.2.1 D).trans (unhide HbD)
          have HU := hide U7
          clear U7
          go_upto_region 20 with fail
          go_cut [18] (fun v wx => v = .bool WL ∧ LnAt wx b m2 ∧ SndAt wx s X2 ∧ RcvAt wx y (takeM Y F) ∧ wx.heap[pb]? = some (.cells p.cells 29 (0, 0)) ∧ wx.heap[wr.heap.size]? = some (.cells #[.int .i64 (e0 : Int), .int .i64 (e1 : Int), .int .i64 (e2 : Int), .int .i64 (e3 : Int), .int .i64 (e4 : Int), .int .i64 (e5 : Int), .int .i64 (e6 : Int), .int .i64 (e7 : Int)] 39 (0, 0)) ∧ Below W.heap.size W wx)
          case first =>
            by_cases hn0 : N = 0
            · have h0I : ((N : Int) == 0) = true := by rw [beq_iff_eq]; omega
              have h0J : (N : Int) = 0 := by omega
              by_cases hs0 : Sd = Rf - 1
              · have h1I : ((Sd : Int) == (Rf : Int) - 1) = true := by rw [beq_iff_eq]; omega
                have Hs0 := hide hs0
                clear hs0
                go_quiet (fail)
                go_wp2_with fail
                go_meet
                case rel => exact ⟨by rw [unhide HWL, decide_eq_true hn0, decide_eq_true (unhide Hs0)]; rfl, at_drewN (unhide HU).1 nq, at_drewN (unhide HU).2.1 nq, at_drewN (unhide HU).2.2.1 nq, at_drewN (unhide HU).2.2.2.1 nq, at_drewN (unhide HU).2.2.2.2.1 nq, below_drewN (unhide HU).2.2.2.2.2 nq⟩
              · have h1I : ((Sd : Int) == (Rf : Int) - 1) = false := by rw [beq_eq_false_iff_ne]; omega
                have h1J : ¬ ((Sd : Int) = (Rf : Int) - 1) := by omega
                go_quiet (fail)
                go_wp2_with fail
                go_meet
                case rel => exact ⟨by rw [unhide HWL, decide_eq_true hn0, decide_eq_false hs0]; rfl, at_drewN (unhide HU).1 nq, at_drewN (unhide HU).2.1 nq, at_drewN (unhide HU).2.2.1 nq, at_drewN (unhide HU).2.2.2.1 nq, at_drewN (unhide HU).2.2.2.2.1 nq, below_drewN (unhide HU).2.2.2.2.2 nq⟩
            · have h0I : ((N : Int) == 0) = false := by rw [beq_eq_false_iff_ne]; omega
              have h0J : ¬ ((N : Int) = 0) := by omega
              go_quiet (fail)
              go_wp2_with fail
              go_meet
              case rel => exact ⟨by rw [unhide HWL, decide_eq_false hn0]; rfl, at_drewN (unhide HU).1 nq, at_drewN (unhide HU).2.1 nq, at_drewN (unhide HU).2.2.1 nq, at_drewN (unhide HU).2.2.2.1 nq, at_drewN (unhide HU).2.2.2.2.1 nq, below_drewN (unhide HU).2.2.2.2.2 nq⟩
          case rest =>
            obtain ⟨rfl, U7⟩ := hcut
            clear HU cN cR cK cB
            generalize wc = w8 at U7 ⊢
            have cK := (block_cell U7.1 1).trans (unhide HKc)
            have HU := hide U7
            clear U7
            go_upto_region 21 with fail
            go_cut [115] (fun v wx => v = .bool false ∧ LnAt wx b m2 ∧ SndAt wx s X2 ∧ RcvAt wx y (takeM Y F) ∧ wx.heap[pb]? = some (.cells p.cells 29 (0, 0)) ∧ wx.heap[wr.heap.size]? = some (.cells #[.int .i64 (e0 : Int), .int .i64 (e1 : Int), .int .i64 (e2 : Int), .int .i64 (e3 : Int), .int .i64 (e4 : Int), .int .i64 (e5 : Int), .int .i64 (e6 : Int), .int .i64 (e7 : Int)] 39 (0, 0)) ∧ Below W.heap.size W wx)
            case first =>
              by_cases hge : Kp + 1 ≤ q
              · have hgI : (Kp : Int) + 2 ≤ (q : Int) + 1 := by omega
                cases TN with
                | true =>
                  go_wp2_with fail
                  go_meet
                  case rel => exact ⟨rfl, unhide HU⟩
                | false =>
                  cases WL with
                  | true =>
                    go_wp2_with fail
                    go_meet
                    case rel => exact ⟨rfl, unhide HU⟩
                  | false =>
                    exfalso
                    have h1 := unhide HTN
                    have h2 := unhide HWL
                    rcases (unhide HFin).1 hge with h | ⟨h, h'⟩
                    · rw [decide_eq_true h] at h1; cases h1
                    · rw [decide_eq_true h, decide_eq_true h'] at h2; cases h2
              · have hgI : ¬ ((Kp : Int) + 2 ≤ (q : Int) + 1) := by omega
                have hgD : decide ((Kp : Int) + 2 ≤ (q : Int) + 1) = false := decide_eq_false hgI
                go_wp2_with fail
                go_meet
                case rel => exact ⟨rfl, unhide HU⟩
            case rest =>
              obtain ⟨rfl, U7⟩ := hcut
              clear HU cK
              generalize wc = w9 at U7 ⊢
              obtain ⟨v0, v1, v2, v3, v4, v5, v6, v7⟩ := cells8 U7.2.2.2.1
              obtain ⟨f0, f1, f2, f3, f4, f5, f6, f7⟩ := free8 U7.2.2.2.1
              have HU := hide U7
              clear U7
              obtain ⟨a1, ha1⟩ : ∃ a, a = (p.seq + 1) % 65536 := ⟨_, rfl⟩
              obtain ⟨a2, ha2⟩ : ∃ a, a = (p.id + 1) % 65536 := ⟨_, rfl⟩
              obtain ⟨a3, ha3⟩ : ∃ a, a = (p.time + d) % 4294967296 := ⟨_, rfl⟩
              have x1 : IntKind.u16.wrap ((p.seq : Int) + 1) = (a1 : Int) := by rw [IntKind.wrap_u16]; omega
              have x2 : IntKind.u16.wrap ((p.id : Int) + 1) = (a2 : Int) := by rw [IntKind.wrap_u16]; omega
              have x3 : IntKind.u32.wrap ((p.time : Int) + (d : Int)) = (a3 : Int) := by rw [IntKind.wrap_u32]; omega
              have x4 : ((p.seq : Int) + 1) % 65536 = (a1 : Int) := by omega
              have x5 : ((p.id : Int) + 1) % 65536 = (a2 : Int) := by omega
              have x6 : ((p.time : Int) + (d : Int)) % 4294967296 = (a3 : Int) := by omega
              have x7 := wrap32 (show d < 4294967296 by omega)
              have hgo : goP p d = ⟨p.src, p.dst, p.port, a1, a3, a2, p.flags, p.body⟩ := by rw [ha1, ha2, ha3]; rfl
              have Hgo := hide hgo
              clear ha1 ha2 ha3 hgo
              go_wp2_with fail
              go_roundw
              case rel =>
                obtain ⟨L9, S9, R9, P9, _, B9⟩ := unhide HU
                obtain ⟨_, lin3, both3, row3⟩ := unhide HFin
                have e0 := heap_setCell_same w9 pb 3 _ _ (.int .u16 (a1 : Int)) P9
                have e1 := heap_setCell_same _ pb 5 _ _ (.int .u16 (a2 : Int)) e0
                have e2 := heap_setCell_same _ pb 4 _ _ (.int .u32 (a3 : Int)) e1
                have hbp : b ≠ pb := Nat.ne_of_lt hbl1
                have hsp : s ≠ pb := Nat.ne_of_lt hsl1
                have hyp : y ≠ pb := Nat.ne_of_lt hyl1
                refine ⟨q + 1, m2, X2, takeM Y F, goP p d, by omega, by go_num, e2s, e2r, lin3, both3, ⟨?_, ?_, ?_, ?_, ?_, ?_⟩, ?_, ?_, goP_ok (unhide Hpo) d, hpb, row3⟩
                · exact block_set (block_set (block_set L9 (by exact hbp) _) (by exact hbp) _) (by exact hbp) _
                · rw [e2s]; exact block_set (block_set (block_set S9 (by exact hsp) _) (by exact hsp) _) (by exact hsp) _
                · rw [e2r]; exact block_set (block_set (block_set R9 (by exact hyp) _) (by exact hyp) _) (by exact hyp) _
                · rw [e2s]; exact hbs
                · rw [e2r]; exact hby
                · rw [e2s, e2r]; exact hsy
                · exact ((B9.setCell (by exact hpW) _).setCell (by exact hpW) _).setCell (by exact hpW) _
                · rw [unhide Hgo]; exact e2
              case measure => simp [intOf]; omega
      · have hltI : ¬ (((q + 1 : Nat) : Int) ≤ (M : Int)) := by omega
        have HB9 := hide hbel
        clear hlin hboth hat hbel hP hpo hrow hms hmr
        go_wp2_with (go_at_call 5; refine (unhide XM _).mono ?_; rintro e w' ⟨rfl, hw'⟩; have hw2 := hw'.symm; subst hw2)
        go_ret
        exact ⟨rfl, unhide HB9⟩

end Go.Proofs.Ytgpojbgjfibblab.texts
