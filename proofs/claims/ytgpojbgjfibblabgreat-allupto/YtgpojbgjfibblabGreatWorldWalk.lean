/-
  The walks of a world's send, hear and told (package gistlaw), on the sender's side.
  Conditions stand in each theorem.
-/
import Derived.Test.YtgpojbgjfibblabGreatWorldIn
import Derived.Test.YtgpojbgjfibblabGreatNoConf
import Derived.Deep.DeepCutAuto
namespace Go.Proofs.YtgpojbgjfibblabGreat.texts
open Go.RowKit
set_option linter.unusedVariables false
attribute [local go_sem ↓] Go.wp_at_zero Go.wp_at_succ
attribute [local go_sem] bs_size

/-- the blocks that a send turns -/
def sendS (wd gs ge gl : Nat) (vs : Value) (k : Nat) : Prop := k = wd ∨ k = gs ∨ k = ge ∨ k = gl ∨ vs.ownBlock = some k
def SentPost (B : Nat) (w : World) (wd gp gs ge gl gB : Nat) (rv vs : Value) (bk : List UInt8) (fs : List (List UInt8)) (d : Doc) (w' : World) : Prop :=
  ∃ m' d' k' vs' fs', Ends m' d' k' ∧ d'.sent ≤ d.sent + 1 ∧ fs'.length ≤ fs.length + 1 ∧ ((∀ f ∈ fs, f.length ≤ 1000) → ∀ f ∈ fs', f.length ≤ 1000) ∧ SAt B w' gp gs ge gl m' d' ∧ WAt B w' wd gp gB rv vs' fs' bk ∧ (vs'.ownBlock = vs.ownBlock ∨ ∃ g, vs'.ownBlock = some g ∧ w.heap.size ≤ g) ∧ Only (sendS wd gs ge gl vs) w w'
theorem toldN_len2 (k : Nat) (n : St) (p : Pk) : (toldN k n p).length ≤ 30 := by
  unfold toldN
  split
  · simp [be_length, hdrL_length]
  · split
    · simp [be_length, restL_length]
    · split <;> simp [be_length]
theorem frame_short2 {x : Snd} (hx : x.ok) {p : Pk} (hb : p.body.length ≤ 100) : (sendF x p).length ≤ 1000 := by
  have := toldN_len2 (sendK x p) (nextN x p) p
  simp only [sendF, frameN, List.length_append, be_length]
  omega

set_option maxRecDepth 100000 in
set_option maxHeartbeats 4000000 in
theorem wsend_long (B : Nat) (wd gp gs ge gl gB : Nat) (rv vs : Value) (fs : List (List UInt8)) (bk : List UInt8) (m : Snd) (d : Doc) (k : Nat) (p : Pk) (w : World) (hW : WAt B w wd gp gB rv vs fs bk) (hS : SAt B w gp gs ge gl m d) (hE : Ends m d k) (hb : 100 < p.body.length) :
    Calls Tryz.prog 14 #[.pointer (some ⟨wd, 0, none⟩), .agg p.cells] w fun e w' => e = .returned (.bool true) ∧ SentPost B w wd gp gs ge gl gB rv vs bk fs d w' := by
  have HW := hide hW
  have HS := hide hS
  have HE := hide hE
  have c0 : w.cell? ⟨wd, 0, none⟩ = some (.pointer (some ⟨gp, 0, none⟩)) := block_cell hW.blk 0
  have c1 : w.cell? ⟨gp, 0, none⟩ = some (.pointer (some ⟨gs, 0, none⟩)) := block_cell hS.pair 0
  have c2 : w.cell? ⟨gp, 2, none⟩ = some (.pointer (some ⟨ge, 0, none⟩)) := block_cell hS.pair 2
  have hwd := block_lt hW.blk
  have hgp := block_lt hS.pair
  clear hW hS hE
  have PK0 := hide (heap_alloc_new w (.cells p.cells 43))
  unfold Pk.cells
  go_enter Tryz.func14, Tryz.ntmps14
  go_upto_region 1 with fail
  go_cut [5, 6] (fun f e wx => f = .string (bs []) ∧ e = .int .i64 2 ∧ Below w.heap.size w wx ∧ wx.heap[w.heap.size]? = some (.cells p.cells 43 (0, 0)))
  case first =>
    go_region_with ((go_at_call 22; refine (gsend_long gs p _ hb).mono ?_; rintro e w1 ⟨rfl, h1⟩; have HB := hide h1; clear h1))
    all_goals go_wp2_with fail
    all_goals go_meet
    all_goals (case rel => exact ⟨rfl, rfl, keep_below ((Below.refl _ _).alloc (Nat.le_refl _) _).drew (unhide HB) (by simp), block_keep (show (w.alloc (.cells p.cells 43)).drew.heap[w.heap.size]? = _ from unhide PK0) (unhide HB)⟩)
  case rest =>
    obtain ⟨rfl, rfl, hb1, pk1⟩ := hcut
    have c0 := keep_cell c0 hb1
    have c1 := keep_cell c1 hb1
    have c2 := keep_cell c2 hb1
    have q0 : wc.cell? ⟨w.heap.size, 0, none⟩ = some (.int .u32 (p.src : Int)) := block_cell pk1 0
    have q1 : wc.cell? ⟨w.heap.size, 1, none⟩ = some (.int .u32 (p.dst : Int)) := block_cell pk1 1
    have q2 : wc.cell? ⟨w.heap.size, 2, none⟩ = some (.int .u16 (p.port : Int)) := block_cell pk1 2
    have q3 : wc.cell? ⟨w.heap.size, 3, none⟩ = some (.int .u16 (p.seq : Int)) := block_cell pk1 3
    have q4 : wc.cell? ⟨w.heap.size, 4, none⟩ = some (.int .u32 (p.time : Int)) := block_cell pk1 4
    have q5 : wc.cell? ⟨w.heap.size, 5, none⟩ = some (.int .u16 (p.id : Int)) := block_cell pk1 5
    have q6 : wc.cell? ⟨w.heap.size, 6, none⟩ = some (.int .u8 (p.flags : Int)) := block_cell pk1 6
    have q7 : wc.cell? ⟨w.heap.size, 7, none⟩ = some (.string (bs p.body)) := block_cell pk1 7
    have HB1 := hide hb1
    clear pk1 hb1
    go_upto_region 2 with fail
    go_cut [7, 8] (fun f e wx => f = .string (bs []) ∧ e = .int .i64 2 ∧ Below w.heap.size w wx)
    case first =>
      go_region_with ((go_at_call 23; refine (dsend_long ge p _ hb).mono ?_; rintro e w1 ⟨rfl, h1⟩; have HB := hide h1; clear h1))
      all_goals go_wp2_with fail
      all_goals go_meet
      all_goals (case rel => exact ⟨rfl, rfl, keep_below (unhide HB1).drew (unhide HB) (unhide HB1).size⟩)
    case rest =>
      obtain ⟨rfl, rfl, hb2⟩ := hcut
      have HB2 := hide hb2
      clear hb2 c0 c1 c2 q0 q1 q2 q3 q4 q5 q6 q7 HB1
      go_wp2_with (go_at_call 13; refine (bits.num_any _ _).mono ?_; rintro e w5 ⟨rfl, h5⟩; have h5 := h5.symm; subst h5)
      go_ret
      have hb2 := unhide HB2
      exact ⟨rfl, m, d, k, vs, fs, unhide HE, by omega, by omega, fun h => h, (unhide HS).grew hb2, (unhide HW).grew hb2, Or.inl rfl, Only.of_below hb2⟩

/-- what stands once the program has sent -/
structure Mid (B : Nat) (w : World) (wd gp gs ge gl gB : Nat) (rv vs : Value) (fs : List (List UInt8)) (bk : List UInt8) (p : Pk) (m : Snd) (d : Doc) (w1 : World) : Prop where
  wat : WAt B w1 wd gp gB rv vs fs bk
  sat : SAt B w1 gp gs ge gl m d
  pk : w1.heap[w.heap.size]? = some (.cells p.cells 43 (0, 0))
  only : Only (fun k => k = gs ∨ k = ge ∨ k = gl) w w1
theorem Mid.start {B : Nat} {w : World} {wd gp gs ge gl gB : Nat} {rv vs : Value} {fs : List (List UInt8)} {bk : List UInt8} {m : Snd} {d : Doc} (p : Pk) (hW : WAt B w wd gp gB rv vs fs bk) (hS : SAt B w gp gs ge gl m d) : Mid B w wd gp gs ge gl gB rv vs fs bk p m d (w.alloc (.cells p.cells 43)).drew :=
  have hb : Below w.heap.size w (w.alloc (.cells p.cells 43)).drew := ((Below.refl _ _).alloc (Nat.le_refl _) _).drew
  ⟨hW.grew hb, hS.grew hb, heap_alloc_new w _, Only.of_below hb⟩
theorem Mid.drew {B : Nat} {w w1 : World} {wd gp gs ge gl gB : Nat} {rv vs : Value} {fs : List (List UInt8)} {bk : List UInt8} {m : Snd} {d : Doc} {p : Pk} (h : Mid B w wd gp gs ge gl gB rv vs fs bk p m d w1) : Mid B w wd gp gs ge gl gB rv vs fs bk p m d w1.drew :=
  have hb : Below w1.heap.size w1 w1.drew := (Below.refl _ _).drew
  ⟨h.wat.grew hb, h.sat.grew hb, h.pk, h.only.drew⟩
theorem Mid.prog {B : Nat} {w w1 w2 : World} {wd gp gs ge gl gB : Nat} {rv vs : Value} {fs : List (List UInt8)} {bk : List UInt8} {m m2 : Snd} {d : Doc} {p : Pk} (h : Mid B w wd gp gs ge gl gB rv vs fs bk p m d w1) (o : Only (· = gs) w1 w2) (hs : SndAt w2 gs m2) : Mid B w wd gp gs ge gl gB rv vs fs bk p m2 d w2 := by
  have hg : w1.heap[gs]? = _ := h.sat.snd
  have oT : OnlyT [82] w1 w2 := OnlyT.of_only o (fun k e => by subst e; exact ⟨_, _, _, hg, by simp⟩)
  refine ⟨h.wat.onlyT oT (by decide) (by decide), ⟨oT.keep h.sat.pair (by decide), hs, ⟨oT.keep h.sat.doc.head (by decide), oT.keep h.sat.doc.rows (by decide), h.sat.doc.sl⟩, h.sat.sts.same (fun q cs hq => oT.block q cs _ _ hq (by decide)), h.sat.ls, h.sat.le, h.sat.ll⟩, oT.keep h.pk (by decide), h.only.trans (o.mono (fun k e => Or.inl e))⟩
theorem Mid.doc_ {B : Nat} {w w1 w2 : World} {wd gp gs ge gl gB : Nat} {rv vs : Value} {fs : List (List UInt8)} {bk : List UInt8} {m : Snd} {d d2 : Doc} {p : Pk} (h : Mid B w wd gp gs ge gl gB rv vs fs bk p m d w1) (o : Only (fun k => k = ge ∨ k = gl) w1 w2) (hd : DocAt w2 ge gl d2) (hs : StsIn w2 B d2) : Mid B w wd gp gs ge gl gB rv vs fs bk p m d2 w2 := by
  have hg : w1.heap[gs]? = _ := h.sat.snd
  have oT : OnlyT [94, 126] w1 w2 := OnlyT.of_only o (fun k e => by
    rcases e with e | e
    · subst e; exact ⟨_, _, _, h.sat.doc.head, by simp⟩
    · subst e; exact ⟨_, _, _, h.sat.doc.rows, by simp⟩)
  exact ⟨h.wat.onlyT oT (by decide) (by decide), ⟨oT.keep h.sat.pair (by decide), oT.keep hg (by decide), hd, hs, h.sat.ls, h.sat.le, h.sat.ll⟩, oT.keep h.pk (by decide), h.only.trans (o.mono (fun k e => Or.inr e))⟩
theorem Mid.out {B : Nat} {w w1 : World} {wd gp gs ge gl gB : Nat} {rv vs : Value} {fs : List (List UInt8)} {bk : List UInt8} {m : Snd} {d : Doc} {p : Pk} (h : Mid B w wd gp gs ge gl gB rv vs fs bk p m d w1) :
    w1.cell? ⟨wd, 0, none⟩ = some (.pointer (some ⟨gp, 0, none⟩)) ∧ w1.cell? ⟨gp, 0, none⟩ = some (.pointer (some ⟨gs, 0, none⟩)) ∧ w1.cell? ⟨gp, 2, none⟩ = some (.pointer (some ⟨ge, 0, none⟩)) ∧ w1.cell? ⟨w.heap.size, 0, none⟩ = some (.int .u32 p.src) ∧ w1.cell? ⟨w.heap.size, 1, none⟩ = some (.int .u32 p.dst) ∧ w1.cell? ⟨w.heap.size, 2, none⟩ = some (.int .u16 p.port) ∧ w1.cell? ⟨w.heap.size, 3, none⟩ = some (.int .u16 p.seq) ∧ w1.cell? ⟨w.heap.size, 4, none⟩ = some (.int .u32 p.time) ∧ w1.cell? ⟨w.heap.size, 5, none⟩ = some (.int .u16 p.id) ∧ w1.cell? ⟨w.heap.size, 6, none⟩ = some (.int .u8 p.flags) ∧ w1.cell? ⟨w.heap.size, 7, none⟩ = some (.string (bs p.body)) := by
  refine ⟨block_cell h.wat.blk 0, block_cell h.sat.pair 0, block_cell h.sat.pair 2, ?_, ?_, ?_, ?_, ?_, ?_, ?_, ?_⟩
  all_goals (rw [block_cell h.pk]; rfl)

set_option maxRecDepth 100000 in
set_option maxHeartbeats 4000000 in
theorem wsend_short (B : Nat) (wd gp gs ge gl gB : Nat) (rv vs : Value) (fs : List (List UInt8)) (bk : List UInt8) (m : Snd) (d : Doc) (k : Nat) (p : Pk) (w : World) (hW : WAt B w wd gp gB rv vs fs bk) (hS : SAt B w gp gs ge gl m d) (hE : Ends m d k) (hp : p.ok) (hb : p.body.length ≤ 100) (ht : d.sent + 1 < 4611686018427387904) (hf : fs.length ≤ 1073741824) :
    Calls Tryz.prog 14 #[.pointer (some ⟨wd, 0, none⟩), .agg p.cells] w fun e w' => e = .returned (.bool true) ∧ SentPost B w wd gp gs ge gl gB rv vs bk fs d w' := by
  have HW := hide hW
  have HS := hide hS
  have HE := hide hE
  have HP := hide hp
  have HM0 := hide (Mid.start p hW hS)
  have c0 : w.cell? ⟨wd, 0, none⟩ = some (.pointer (some ⟨gp, 0, none⟩)) := block_cell hW.blk 0
  have c1 : w.cell? ⟨gp, 0, none⟩ = some (.pointer (some ⟨gs, 0, none⟩)) := block_cell hS.pair 0
  have hwd := block_lt hW.blk
  have hgp := block_lt hS.pair
  have hlw := hW.lw
  have hBw : B ≤ w.heap.size := by omega
  obtain ⟨F, hF⟩ : ∃ F, F = sendF m p := ⟨_, rfl⟩
  have HF := hide hF
  clear hW hS hE hp hF
  obtain ⟨i1, ki, kz0, kz1, kz2⟩ := info_parts infoS
  unfold Pk.cells
  go_enter Tryz.func14, Tryz.ntmps14
  go_upto_region 1 with fail
  go_cut [5, 6] (fun f e wx => f = .string (bs F) ∧ e = .int .i64 0 ∧ Mid B w wd gp gs ge gl gB rv vs fs bk p (sendM m p) d wx)
  case first =>
    go_region_with ((go_at_call 22; refine (gsend_any m gs p _ (unhide HE).ok (unhide HM0).sat.snd (unhide HP) hb (young_mem (unhide HE).ok (unhide HE).young)).mono ?_; rintro e w1 ⟨rfl, h1, h2⟩; have HM1 := hide ((unhide HM0).prog h2 h1); rw [← unhide HF]; clear h1 h2))
    all_goals go_wp2_with fail
    all_goals go_meet
    all_goals (case rel => exact ⟨rfl, rfl, unhide HM1⟩)
  case rest =>
    obtain ⟨rfl, rfl, M1⟩ := hcut
    clear c0 c1
    obtain ⟨c0, c1, c2, q0, q1, q2, q3, q4, q5, q6, q7⟩ := M1.drew.out
    have HM1 := hide M1.drew
    have e0 : wc.cell? ⟨wd, 0, none⟩ = _ := c0
    have e1 : wc.cell? ⟨gp, 0, none⟩ = _ := c1
    have e2 : wc.cell? ⟨gp, 2, none⟩ = _ := c2
    clear M1
    go_upto_region 2 with fail
    go_cut [7, 8] (fun f e wx => f = .string (bs F) ∧ e = .int .i64 0 ∧ ∃ d' k', Ends (sendM m p) d' k' ∧ d'.sent = d.sent + 1 ∧ Mid B w wd gp gs ge gl gB rv vs fs bk p (sendM m p) d' wx)
    case first =>
      go_region_with ((go_at_call 23; refine (dsend_any d ge gl B p _ (unhide HM1).sat.doc (unhide HM1).sat.sts (Nat.le_trans hBw (unhide HM1).only.size) (unhide HP) hb ((unhide HE).well (unhide HS).sts (unhide HS).doc ht) (by have := (unhide HE).ok.c1; rw [(unhide HE).rel.len]; omega) (by have := (unhide HE).ok.c8; rw [(unhide HE).rel.len]; omega) (by rw [(unhide HE).rel.keep]; exact (unhide HE).ok.k1) (by rw [(unhide HE).rel.keep]; exact (unhide HE).ok.k4) (by rw [(unhide HE).rel.refresh]; exact (unhide HE).ok.r2) (by rw [(unhide HE).rel.refresh]; exact (unhide HE).ok.r100) ht).mono ?_; rintro e w1 ⟨i, fresh, v, hpl, he, h1, h2, h3⟩; obtain ⟨⟨k', E'⟩, hfr⟩ := (unhide HE).send (unhide HP) hpl v ht ((unhide HE).well (unhide HS).sts (unhide HS).doc ht i hpl.1); rw [hfr, ← unhide HF] at he; subst he; have HM2 := hide ((unhide HM1).doc_ h3 h1 h2); have HE2 := hide E'; clear h1 h2 h3 hpl hfr E'))
      all_goals go_wp2_with fail
      all_goals go_meet
      all_goals (case rel => exact ⟨rfl, rfl, _, _, unhide HE2, rfl, unhide HM2⟩)
    case rest =>
      obtain ⟨rfl, rfl, d', k', E', hds, M2⟩ := hcut
      clear c0 c1 c2 q0 q1 q2 q3 q4 q5 q6 q7 e0 e1 e2 HM1
      have c2 : wc.cell? ⟨wd, 2, none⟩ = some vs := block_cell M2.wat.blk 2
      have hown := M2.wat.sent
      have HM2 := hide M2
      have HE2 := hide E'
      have hz2 : w.heap.size ≤ wc.heap.size := M2.only.size
      clear M2 E'
      go_wp2_with (first
        | (go_at_call 13; refine (bits.num_any _ _).mono ?_; rintro e w5 ⟨rfl, h5⟩; have h5 := h5.symm; subst h5)
        | (at_builtin; refine wpList_append_own_at _ rfl _ _ 31 rfl B 9 i1 (.string ⟨#[]⟩) 1 16 Tryz.underlying31 ki kz0 kz1 kz2 rfl (by decide) _ _ _ rfl (hown.alloc _) ⟨wc.heap.size, 0, none⟩ 1 1 [.string (bs F)] rfl rfl ?e1 ?e2 ?e3 ?e4 ?e5 ?_))
      case e1 =>
        intro j u hj
        match j, hj with
        | 0, hj => simp at hj; subst hj; simp [Addr.add]
      case e2 => first | (intro u hu; simp at hu; subst hu; rfl) | rfl
      case e3 => unfold maxLen; omega
      case e4 => omega
      case e5 => first | omega | (simp; omega)
      intro vs' w4 hN hg _ hat
      obtain ⟨ao4, cap4, rfl⟩ := own_sl hN
      have oT : OnlyT [9] wc w4 := ((OnlyT.refl _ wc).alloc _).trans (OnlyT.grown (hown.alloc _) hg (by simp))
      have b4 := oT.keep (unhide HM2).wat.blk (by decide)
      have d2 : w4.cell? ⟨wd, 2, none⟩ = some vs := block_cell b4 2
      have f2 : w4.frozen? ⟨wd, 2, none⟩ = false := block_free b4 2
      have p5 : OnlyT [63] w4 (w4.setCell ⟨wd, 2, none⟩ (.slice ao4 (fs.length + 1) cap4)) := OnlyT.cell b4 (by simp) _
      have S5 := ((unhide HM2).sat.onlyT oT (by decide) (by decide) (by decide) (by decide) (by decide)).onlyT p5 (by decide) (by decide) (by decide) (by decide) (by decide)
      have W5 : WAt B (w4.setCell ⟨wd, 2, none⟩ (.slice ao4 (fs.length + 1) cap4)) wd gp gB rv (.slice ao4 (fs.length + 1) cap4) (fs ++ [F]) bk := ⟨block_put b4 2 _, by rw [List.length_append, strs_snoc]; exact p5.own hN (by decide), hlw⟩
      have o5 : Only (sendS wd gs ge gl vs) w (w4.setCell ⟨wd, 2, none⟩ (.slice ao4 (fs.length + 1) cap4)) := by
        have a1 : Only (sendS wd gs ge gl vs) w wc := (unhide HM2).only.mono (fun q e => by rcases e with e | e | e; exact Or.inr (Or.inl e); exact Or.inr (Or.inr (Or.inl e)); exact Or.inr (Or.inr (Or.inr (Or.inl e))))
        have a2 : Only (sendS wd gs ge gl vs) wc w4 := ⟨hg.os, hg.tape, hg.output, by have := hg.size; simp at this; omega, fun q hq hs => by rw [hg.block q (by simp; omega) (fun e => hs (Or.inr (Or.inr (Or.inr (Or.inr e.symm))))), Below.heap_alloc _ _ _ hq]⟩
        exact (a1.trans a2).setCell (Or.inl rfl) _
      have hnew : (Value.slice ao4 (fs.length + 1) cap4).ownBlock = vs.ownBlock ∨ ∃ g, (Value.slice ao4 (fs.length + 1) cap4).ownBlock = some g ∧ w.heap.size ≤ g := by
        rcases hat with e | e
        · exact Or.inl e
        · exact Or.inr ⟨_, e, by first | omega | (simp; omega)⟩
      have fin := hide (show SentPost B w wd gp gs ge gl gB rv vs bk fs d (w4.setCell ⟨wd, 2, none⟩ (.slice ao4 (fs.length + 1) cap4)) from
        ⟨sendM m p, d', k', _, fs ++ [F], unhide HE2, by omega, by simp, fun h f hf' => by
          rcases List.mem_append.1 hf' with h1 | h1
          · exact h f h1
          · simp at h1; rw [h1, unhide HF]; exact frame_short2 (unhide HE).ok hb, S5, W5, hnew, o5⟩)
      clear hN hg hat oT b4 p5 S5 W5 o5 hnew hown c2
      go_wp2
      go_ret
      exact ⟨rfl, unhide fin⟩

end Go.Proofs.YtgpojbgjfibblabGreat.texts
