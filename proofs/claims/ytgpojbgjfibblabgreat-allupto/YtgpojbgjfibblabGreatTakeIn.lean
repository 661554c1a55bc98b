/-
  The walk of the program's Take (package receiver), of a text that has the form of a frame.
  Conditions stand in each theorem.
-/
import Derived.Test.YtgpojbgjfibblabGreatTakeWalk
namespace Go.Proofs.YtgpojbgjfibblabGreat.texts
open Go.RowKit
set_option linter.unusedVariables false
attribute [local go_sem ↓] Go.wp_at_zero Go.wp_at_succ
attribute [local go_sem] bs_size be_length bs_append List.length_append
attribute [local go_sem ↓] loadRx_eq storeRx_eq
attribute [local go_sem] run_loadRx run_storeRx

theorem Only.newCell {S : Nat → Prop} {a w : World} (h : Only S a w) {p : Addr} (hg : a.heap.size ≤ p.block) (v : Value) : Only S a (w.setCell p v) :=
  ⟨h.os, h.tape, h.output, by simpa [World.setCell] using h.size, fun k hk hs => by rw [Below.heap_setCell _ _ _ _ (by omega)]; exact h.block k hk hs⟩
theorem TkA.cell {w w1 : World} {b gF : Nat} {m : Rcv} {f : Fr} (h : TkA w b m f gF w1) {g j : Nat} (hg : w.heap.size < g) (hne : g ≠ gF) (v : Value) : TkA w b m f gF (w1.setCell ⟨g, j, none⟩ v) :=
  have hb := h.bb
  have n1 : b ≠ g := by omega
  have n2 : w.heap.size ≠ g := by omega
  ⟨by rw [RcvAt, Below.heap_setCell _ _ _ _ (by exact n1)]; exact h.rcv, by rw [Below.heap_setCell _ _ _ _ (by exact n2)]; exact h.res, by rw [Below.heap_setCell _ _ _ _ (by exact fun e => hne e.symm)]; exact h.fr, h.gf, h.bb, h.only.newCell (by show w.heap.size ≤ g; omega) _⟩

set_option maxRecDepth 100000 in
set_option maxHeartbeats 8000000 in
theorem take_in (m : Rcv) (b : Nat) (l : List UInt8) (f : Fr) (w : World) (hm : m.ok) (h : RcvAt w b m) (hl : l.length ≤ 9223372036854775807) (hr : readF l = some f) (hc : f.cid < m.cids) :
    Calls Tryz.prog 55 #[.pointer (some ⟨b, 0, none⟩), .string (bs l)] w fun e w' => e = .returned (.tuple #[.agg (takeP m l).cells, .string (bs (takeB m l)), .int .i64 (takeE m l)]) ∧ RcvAt w' b (takeM m l) ∧ Only (· = b) w w' := by
  have c8 := hm.c8
  have H := hide h
  have hfo := (readF_ok hr).1
  obtain ⟨c, hcc⟩ : ∃ c, c = m.at_ f.cid := ⟨_, rfl⟩
  have hco : c.ok := by rw [hcc]; exact Rcv.at_ok hm _
  obtain ⟨d, hd⟩ : ∃ d, d = followN c f := ⟨_, rfl⟩
  obtain ⟨P, hP⟩ : ∃ P, P = madeN c f := ⟨_, rfl⟩
  have hPo : P.ok := by rw [hP]; exact madeN_ok hco hfo
  have hdo : d.ok := by rw [hd]; exact followN_ok hco hfo
  have hP2 : P = packetN d.st d.src d.dst d.port f.body := by rw [hP, hd]; rfl
  obtain ⟨E, hE⟩ : ∃ E, E = refusalN c f P := ⟨_, rfl⟩
  have hE11 : E < 11 := by rw [hE]; unfold refusalN; split; omega; split; omega; split <;> omega
  have hE4 : E ≠ 4 := by rw [hE]; unfold refusalN; split; omega; split; omega; split <;> omega
  have tE : takeE m l = E := by unfold takeE; rw [hr]; simp only; rw [if_neg (by omega), hE, hP, hcc]
  have tP : takeP m l = if E = 0 then P else zeroP := by unfold takeP; rw [hr]; simp only; rw [tE, hP, hcc]
  have tB : takeB m l = if E = 0 ∨ f.kind = 3 then [] else feedN E ((c.missed + 1) % 256) f.cid := by
    unfold takeB; rw [hr]; simp only; rw [tE, hcc]
    by_cases e : E = 0 ∨ f.kind = 3
    · rw [if_pos e, if_pos (by omega)]
    · rw [if_neg e, if_neg (by omega)]
  have tM : takeM m l = if E = 0 then m.set f.cid d else if f.kind = 3 then m else m.set f.cid { c with missed := (c.missed + 1) % 256 } := by
    unfold takeM; rw [hr]; simp only; rw [tE, if_neg hE4, hd, hcc]
  have TE := hide tE
  have TP := hide tP
  have TB := hide tB
  have TM := hide tM
  obtain ⟨FC, hFC⟩ : ∃ FC, FC = f.cells := ⟨_, rfl⟩
  obtain ⟨C, hC⟩ : ∃ C, C = c.cells := ⟨_, rfl⟩
  obtain ⟨N, hN⟩ : ∃ N, N = d.cells := ⟨_, rfl⟩
  obtain ⟨PC, hPC⟩ : ∃ PC, PC = P.cells := ⟨_, rfl⟩
  have X1 := hide (show ∀ w : World, Calls Tryz.prog 87 #[.string (bs l)] w fun e w' => e = .returned (.tuple #[.agg FC, .bool true]) ∧ Below w.heap.size w w' by
    intro w; have := fread_any l w hl; rw [hr] at this; rw [hFC]; exact this)
  have X2 := hide (show ∀ w : World, Calls Tryz.prog 88 #[.agg C, .agg FC] w fun e w' => e = .returned (.agg N) ∧ Below w.heap.size w w' by
    intro w; rw [hC, hFC, hN, hd]; exact follow_any c f w hco hfo)
  have X3 := hide (show ∀ w : World, Calls Tryz.prog 89 #[.agg #[.int .u16 d.st.seq, .int .u16 d.st.stride, .int .u16 d.st.offset, .int .u32 d.st.lag, .int .u8 d.st.flags], .agg #[.int .u32 d.src, .int .u32 d.dst, .int .u16 d.port], .string (bs f.body)] w fun e w' => e = .returned (.agg PC) ∧ Below w.heap.size w w' by
    intro w; rw [hPC, hP2]; exact spacket_any d.st d.src d.dst d.port f.body w hdo.st)
  have X4 := hide (show ∀ w : World, Calls Tryz.prog 90 #[.agg C, .agg FC, .agg PC] w fun e w' => e = .returned (.int .i64 E) ∧ Below w.heap.size w w' by
    intro w; rw [hC, hFC, hPC, hE]; exact refusal_any c f P w hfo hPo)
  have hml := hm.len
  have hk8 : f.cid < 8 := by omega
  have F0 : FC[0]? = some (.int .u8 f.kind) := by rw [hFC]; rfl
  have F1 : FC[1]? = some (.int .u8 f.cid) := by rw [hFC]; rfl
  have N1 : N[1]? = some (.int .u32 d.src) := by rw [hN]; rfl
  have N2 : N[2]? = some (.int .u32 d.dst) := by rw [hN]; rfl
  have N3 : N[3]? = some (.int .u16 d.port) := by rw [hN]; rfl
  have N5 : N[5]? = some (.int .u16 d.st.seq) := by rw [hN]; rfl
  have N6 : N[6]? = some (.int .u16 d.st.stride) := by rw [hN]; rfl
  have N7 : N[7]? = some (.int .u16 d.st.offset) := by rw [hN]; rfl
  have N8 : N[8]? = some (.int .u32 d.st.lag) := by rw [hN]; rfl
  have N9 : N[9]? = some (.int .u8 d.st.flags) := by rw [hN]; rfl
  have HFC := hide hFC
  have HC := hide hC
  have HN := hide hN
  have HPC := hide hPC
  have Hcc := hide hcc
  have FI := hide (show (Tryz.prog.info? 168).map (·.size) = some FC.size by rw [hFC]; exact infoFr)
  have FS := hide (show Fr.zero.cells.size = FC.size by rw [hFC]; rfl)
  have FO := hide (show FC.all (·.oneCell') = true by rw [hFC]; exact Fr.cells_one f)
  have CI := hide (show (Tryz.prog.info? 84).map (·.size) = some C.size by rw [hC]; exact infoRx)
  have CS := hide (show Rx.blank.cells.size = C.size by rw [hC]; rfl)
  have CO := hide (show C.all (·.oneCell') = true by rw [hC]; exact Rx.cells_one c)
  have NI := hide (show (Tryz.prog.info? 84).map (·.size) = some N.size by rw [hN]; exact infoRx)
  have NS := hide (show Rx.blank.cells.size = N.size by rw [hN]; rfl)
  have NO := hide (show N.all (·.oneCell') = true by rw [hN]; exact Rx.cells_one d)
  have PI := hide (show (Tryz.prog.info? 43).map (·.size) = some PC.size by rw [hPC]; exact infoPk)
  have PS := hide (show zeroP.cells.size = PC.size by rw [hPC]; rfl)
  have PO := hide (show PC.all (·.oneCell') = true by rw [hPC]; exact Pk.cells_one P)
  have i0 : (0 : Int) ≤ (f.cid : Int) := by omega
  have i1 : (f.cid : Int) < 8 := by omega
  have hmiss := hco.missed
  obtain ⟨k, hk⟩ : ∃ k, k = f.cid := ⟨_, rfl⟩
  clear hr h hm hfo hcc hco hd hP hPo hdo hP2 hE tE tP tB tM hFC hC hN hPC hk
  go_enter Tryz.func55, Tryz.ntmps55
  go_upto_region 5 with (first
      | (go_at_call 87; refine (unhide X1 _).mono ?_; rintro e w1 ⟨rfl, hb1⟩; have K := TkA.start f (unhide H) hb1; rw [← unhide HFC] at K; have k0 : (w1.alloc (.cells FC 168)).cell? ⟨b, 0, none⟩ = some (.int .i64 m.cids) := (block_cell K.rcv 0).trans (Rcv.get0 m); have HK := hide K; clear K hb1)
      | (refine store_new (ty := 168) (old := Fr.zero.cells) rfl rfl rfl (unhide FI) (unhide FS) (unhide FO) ?_))
  go_cut [10] (fun v wx => ∃ gC, v = .pointer (some ⟨gC, 0, none⟩) ∧ TkA w b m f w1.heap.size wx ∧ Apart w gC C 84 wx)
  case first =>
    go_wp2_with (first
      | (refine load_part (ty := 84) rfl ((unhide HK).rcv.range f.cid (by omega) (by rw [← unhide Hcc]; exact unhide HC)) Tryz.underlying84 rfl (unhide CI) ?_)
      | (refine store_new (ty := 84) (old := Rx.blank.cells) (g := w1.heap.size + 1) rfl rfl (by simp) (unhide CI) (unhide CS) (unhide CO) ?_))
    go_meet
    case rel => exact ⟨_, rfl, (unhide HK).alloc _, by have := heap_alloc_new (w1.alloc (.cells FC 168)) (.cells C 84); simpa using this, by have := (unhide HK).gf; omega⟩
  case rest =>
    obtain ⟨gC, rfl, K2, A2⟩ := hcut
    generalize w1.heap.size = gF at *
    have HK2 := hide K2
    have HA2 := hide A2
    clear K2 A2 HK k0 X1 H
    go_upto_region 6 with fail
    go_cut [11] (fun v wx => ∃ gN, v = .pointer (some ⟨gN, 0, none⟩) ∧ TkA w b m f gF wx ∧ Apart w gC C 84 wx ∧ Apart w gN N 84 wx)
    case first =>
      go_wp2_with (first
        | (refine load_whole (ty := 84) rfl (unhide HA2).at_ Tryz.underlying84 rfl (unhide CI) ?_)
        | (refine load_whole (ty := 168) rfl (by rw [unhide HFC]; exact (unhide HK2).fr) Tryz.underlying168 rfl (unhide FI) ?_)
        | (go_at_call 88; refine (unhide X2 _).mono ?_; rintro e w3 ⟨rfl, hb3⟩; have HK3 := hide ((unhide HK2).call hb3); have HA3 := hide ((unhide HA2).call hb3); clear hb3)
        | (refine store_new (ty := 84) (old := Rx.blank.cells) rfl rfl rfl (unhide NI) (unhide NS) (unhide NO) ?_))
      go_meet
      case rel => exact ⟨_, rfl, (unhide HK3).alloc _, (unhide HA3).alloc _, Apart.new (unhide HK3).lt _ _⟩
    case rest =>
      obtain ⟨gN, rfl, K3, A3, B3⟩ := hcut
      clear HK2 HA2 X2
      have n1 := (block_cell B3.at_ 1).trans N1
      have n2 := (block_cell B3.at_ 2).trans N2
      have n3 := (block_cell B3.at_ 3).trans N3
      have n5 := (block_cell B3.at_ 5).trans N5
      have n6 := (block_cell B3.at_ 6).trans N6
      have n7 := (block_cell B3.at_ 7).trans N7
      have n8 := (block_cell B3.at_ 8).trans N8
      have n9 := (block_cell B3.at_ 9).trans N9
      obtain ⟨_, _, _, _, _, _, _, _, _, _, _, _, k12⟩ := fr_cells K3.fr
      have HK3 := hide K3
      have HA3 := hide A3
      have HB3 := hide B3
      clear K3 A3 B3 N1 N2 N3 N5 N6 N7 N8 N9 F0 F1
      go_upto_region 7 with fail
      go_cut [12] (fun v wx => ∃ gP, v = .pointer (some ⟨gP, 0, none⟩) ∧ TkA w b m f gF wx ∧ Apart w gC C 84 wx ∧ Apart w gN N 84 wx ∧ Apart w gP PC 43 wx)
      case first =>
        go_wp2_with (first
          | (go_at_call 89; refine (unhide X3 _).mono ?_; rintro e w4 ⟨rfl, hb4⟩; have HK4 := hide ((unhide HK3).call hb4); have HA4 := hide ((unhide HA3).call hb4); have HB4 := hide ((unhide HB3).call hb4); clear hb4)
          | (refine store_new (ty := 43) (old := zeroP.cells) rfl rfl rfl (unhide PI) (unhide PS) (unhide PO) ?_))
        go_meet
        case rel => exact ⟨_, rfl, (unhide HK4).alloc _, (unhide HA4).alloc _, (unhide HB4).alloc _, Apart.new (unhide HK4).lt _ _⟩
      case rest =>
        obtain ⟨gP, rfl, K4, A4, B4, P4⟩ := hcut
        have HK4 := hide K4
        have HA4 := hide A4
        have HB4 := hide B4
        have HP4 := hide P4
        clear HK3 HA3 HB3 X3 K4 A4 B4 P4 n1 n2 n3 n5 n6 n7 n8 n9 k12
        go_upto_region 8 with fail
        go_cut [13] (fun v wx => v = .int .i64 E ∧ TkA w b m f gF wx ∧ Apart w gC C 84 wx ∧ Apart w gN N 84 wx ∧ Apart w gP PC 43 wx)
        case first =>
          go_wp2_with (first
            | (refine load_whole (ty := 84) rfl (unhide HA4).at_ Tryz.underlying84 rfl (unhide CI) ?_)
            | (refine load_whole (ty := 168) rfl (by rw [unhide HFC]; exact (unhide HK4).fr) Tryz.underlying168 rfl (unhide FI) ?_)
            | (refine load_whole (ty := 43) rfl (unhide HP4).at_ Tryz.underlying43 rfl (unhide PI) ?_)
            | (go_at_call 90; refine (unhide X4 _).mono ?_; rintro e w5 ⟨rfl, hb5⟩; have HK5 := hide ((unhide HK4).call hb5); have HA5 := hide ((unhide HA4).call hb5); have HB5 := hide ((unhide HB4).call hb5); have HP5 := hide ((unhide HP4).call hb5); clear hb5))
          go_meet
          case rel => exact ⟨rfl, unhide HK5, unhide HA5, unhide HB5, unhide HP5⟩
        case rest =>
          obtain ⟨rfl, K5, A5, B5, P5⟩ := hcut
          clear HK4 HA4 HB4 HP4 X4
          by_cases h0 : E = 0
          · subst h0
            have Q := hide (show takeP m l = P ∧ takeB m l = [] ∧ takeE m l = 0 ∧ takeM m l = m.set f.cid d from ⟨by rw [unhide TP, if_pos rfl], by rw [unhide TB, if_pos (Or.inl rfl)], unhide TE, by rw [unhide TM, if_pos rfl]⟩)
            clear TP TB TE TM
            have x1 : RxIn wc.drew gN 0 := by have := B5.drew.at_; rw [unhide HN] at this; exact block_rxIn this
            have x2 : rxOf wc.drew gN 0 = N := by have := B5.drew.at_; rw [unhide HN] at this ⊢; exact block_rxOf this
            have x3 : RxTo wc.drew b (1 + f.cid * 11) := K5.drew.rcv.to f.cid (by omega)
            have x4 : GoodRx N := by rw [unhide HN]; exact Rx.good d
            have HK5 := hide K5.drew
            have HP5 := hide P5.drew
            clear K5 A5 B5 P5
            go_upto_region 10 with fail
            go_region
            all_goals
              have K6 := (unhide HK5).stored f.cid d (by omega)
              rw [← unhide HN] at K6
              have P6 := (unhide HP5).other (unhide HK5).bb (putRow (rowOf wc.drew b) (1 + f.cid * 11) N.toList)
              have HK6 := hide K6
              have HP6 := hide P6
              generalize wc.drew.setRow b (putRow (rowOf wc.drew b) (1 + f.cid * 11) N.toList) = w6 at HK6 HP6 ⊢
              clear K6 P6
              go_wp2_with (first
                | (refine load_whole (ty := 43) rfl (unhide HP6).at_ Tryz.underlying43 rfl (unhide PI) ?_)
                | (refine store_whole (ty := 43) rfl rfl (unhide HK6).res (unhide PI) (unhide PS) (unhide PO) ?_))
              exact ret_whole3 (cs := PC) Tryz.results55 rfl (setRow_heap _ _ _ _ _ _ (unhide HK6).res) Tryz.underlying43 rfl (unhide PI) rfl ⟨by rw [(unhide Q).1, (unhide Q).2.1, (unhide Q).2.2.1, unhide HPC]; rfl, by rw [(unhide Q).2.2.2, RcvAt, setRow_other _ _ _ _ (by have := (unhide HK6).bb; omega)]; exact (unhide HK6).rcv, (unhide HK6).only.new (Nat.le_refl _) _⟩
          · have hEb : ((E : Int) == 0) = false := by rw [beq_eq_false_iff_ne]; omega
            obtain ⟨k0, k1, _, _, _, _, _, _, _, _, _, _, _⟩ := fr_cells K5.fr
            by_cases h3 : f.kind = 3
            · have Q := hide (show takeP m l = zeroP ∧ takeB m l = [] ∧ takeE m l = E ∧ takeM m l = m from ⟨by rw [unhide TP, if_neg h0], by rw [unhide TB, if_pos (Or.inr h3)], unhide TE, by rw [unhide TM, if_neg h0, if_pos h3]⟩)
              clear TP TB TE TM
              have k0' : wc.cell? ⟨gF, 0, none⟩ = some (.int .u8 3) := by rw [k0, h3]; rfl
              clear k0
              have HK5 := hide K5
              clear K5 A5 B5 P5
              go_wp2_with (refine store_whole (ty := 43) rfl rfl (unhide HK5).res infoPk rfl (Pk.cells_one zeroP) ?_)
              exact ret_whole3 (cs := zeroP.cells) Tryz.results55 rfl (setRow_heap _ _ _ _ _ _ (unhide HK5).res) Tryz.underlying43 rfl infoPk rfl ⟨by rw [(unhide Q).1, (unhide Q).2.1, (unhide Q).2.2.1]; rfl, by rw [(unhide Q).2.2.2, RcvAt, setRow_other _ _ _ _ (by have := (unhide HK5).bb; omega)]; exact (unhide HK5).rcv, (unhide HK5).only.new (Nat.le_refl _) _⟩
            · have h3b : ((f.kind : Int) == 3) = false := by rw [beq_eq_false_iff_ne]; omega
              obtain ⟨M, hM⟩ : ∃ M, M = (c.missed + 1) % 256 := ⟨_, rfl⟩
              have hM256 : M < 256 := by omega
              obtain ⟨c2, hc2⟩ : ∃ c2, c2 = ({ c with missed := M } : Rx) := ⟨_, rfl⟩
              have Q := hide (show takeP m l = zeroP ∧ takeB m l = feedN E M f.cid ∧ takeE m l = E ∧ takeM m l = m.set f.cid c2 from ⟨by rw [unhide TP, if_neg h0], by rw [unhide TB, if_neg (by omega), hM], unhide TE, by rw [unhide TM, if_neg h0, if_neg h3, hc2, hM]⟩)
              clear TP TB TE TM
              have hne : gC ≠ gF := by
                intro e
                have h1 := A5.at_
                rw [e, K5.fr] at h1
                simp at h1
              have hMw : ((c.missed : Int) + 1) % 256 = (M : Int) := by omega
              have X5 := hide (show ∀ w : World, Calls Tryz.prog 91 #[.int .i64 E, .int .u8 M, .int .u8 f.cid] w fun e w' => e = .returned (.string (bs (feedN E M f.cid))) ∧ Below w.heap.size w w' from fun w => feedback_any E M f.cid w hE11 hM256 hk8)
              have A5' := A5.at_
              rw [unhide HC] at A5'
              obtain ⟨_, _, _, _, _, _, _, _, _, _, c10⟩ := rx_cells A5'
              have d10 := block_free A5' 10
              have L6 : Apart w gC c2.cells 84 (wc.setCell ⟨gC, 10, none⟩ (.int .u8 M)) := by
                refine ⟨?_, A5.up⟩
                have e := heap_setCell_same wc gC 10 _ _ (.int .u8 (M : Int)) A5'
                rw [e, hc2]
                simp only [Rx.cells, List.setIfInBounds_toArray, List.set_cons_zero, List.set_cons_succ]
              have K6 : TkA w b m f gF (wc.setCell ⟨gC, 10, none⟩ (.int .u8 M)) := K5.cell A5.up hne _
              have HK5 := hide K5
              have HL6 := hide L6
              have HK6 := hide K6
              have Hc2 := hide hc2
              clear A5 B5 P5 A5' L6 K6 K5 hM hc2
              go_upto_region 15 with fail
              generalize wc.setCell ⟨gC, 10, none⟩ (.int .u8 (M : Int)) = w6 at HL6 HK6 ⊢
              obtain ⟨C2, hC2⟩ : ∃ C2, C2 = c2.cells := ⟨_, rfl⟩
              rw [← hC2] at HL6
              have HC2 := hide hC2
              clear hC2 HK5 c10 d10 k0 k1
              have x1 : RxIn w6.drew gC 0 := by have := (unhide HL6).drew.at_; rw [unhide HC2] at this; exact block_rxIn this
              have x2 : rxOf w6.drew gC 0 = C2 := by have := (unhide HL6).drew.at_; rw [unhide HC2] at this ⊢; exact block_rxOf this
              have x3 : RxTo w6.drew b (1 + f.cid * 11) := (unhide HK6).drew.rcv.to f.cid (by omega)
              have x4 : GoodRx C2 := by rw [unhide HC2]; exact Rx.good c2
              go_region
              all_goals
                have K7 := (unhide HK6).drew.stored f.cid c2 (by omega)
                rw [← unhide HC2] at K7
                have P7 := (unhide HL6).drew.other (unhide HK6).bb (putRow (rowOf w6.drew b) (1 + f.cid * 11) C2.toList)
                have HK7 := hide K7
                have HP7 := hide P7
                generalize w6.drew.setRow b (putRow (rowOf w6.drew b) (1 + f.cid * 11) C2.toList) = w7 at HK7 HP7 ⊢
                clear K7 P7 x1 x2 x3 x4
                obtain ⟨_, k1, _, _, _, _, _, _, _, _, _, _, _⟩ := fr_cells (unhide HK7).fr
                have c10 : w7.cell? ⟨gC, 10, none⟩ = some (.int .u8 M) := by
                  have := (unhide HP7).at_
                  rw [unhide HC2] at this
                  have := (rx_cells this).2.2.2.2.2.2.2.2.2.2
                  rw [this, unhide Hc2]
                go_wp2_with (first
                  | (go_at_call 91; refine (unhide X5 _).mono ?_; rintro e w8 ⟨rfl, hb8⟩; have HK8 := hide ((unhide HK7).call hb8); clear hb8)
                  | (refine store_whole (ty := 43) rfl rfl (unhide HK8).res infoPk rfl (Pk.cells_one zeroP) ?_))
                exact ret_whole3 (cs := zeroP.cells) Tryz.results55 rfl (setRow_heap _ _ _ _ _ _ (unhide HK8).res) Tryz.underlying43 rfl infoPk rfl ⟨by rw [(unhide Q).1, (unhide Q).2.1, (unhide Q).2.2.1]; rfl, by rw [(unhide Q).2.2.2, RcvAt, setRow_other _ _ _ _ (by have := (unhide HK8).bb; omega)]; exact (unhide HK8).rcv, (unhide HK8).only.new (Nat.le_refl _) _⟩

end Go.Proofs.YtgpojbgjfibblabGreat.texts
