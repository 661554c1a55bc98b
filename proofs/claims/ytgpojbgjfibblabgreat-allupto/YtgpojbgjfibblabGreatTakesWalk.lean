/-
  The walks of a world's take and passed, of pick and spoilt, and of told on the receiver's side (package gistlaw).
  Conditions stand in each theorem.
-/
import Derived.Test.YtgpojbgjfibblabGreatJoinTakesIn
import Derived.Deep.DeepCutAuto
namespace Go.Proofs.YtgpojbgjfibblabGreat.texts
open Go.RowKit
set_option linter.unusedVariables false
attribute [local go_sem ↓] Go.wp_at_zero Go.wp_at_succ
attribute [local go_sem] bs_size bs_append List.length_append bs_extract bs_list bs_toList

/-- the blocks that a take turns -/
def takeS (wd gy gl : Nat) (k : Nat) : Prop := k = wd ∨ k = gy ∨ k = gl
def TookPost (B : Nat) (w : World) (wd gp gB gr gy ge gl : Nat) (vs : Value) (fs : List (List UInt8)) (bk : List UInt8) (w' : World) : Prop :=
  ∃ m' d' bk', EndsR m' d' ∧ RAt B w' gr gy ge gl m' d' ∧ WAt B w' wd gp gB (.pointer (some ⟨gr, 0, none⟩)) vs fs bk' ∧ (bk.length ≤ 1000 → bk'.length ≤ 1000) ∧ Only (takeS wd gy gl) w w'
theorem feed_len (e m c : Nat) : (feedN e m c).length ≤ 2 := by
  unfold feedN
  split
  · simp
  · unfold letterN
    split
    · split <;> simp [be_length]
    · split
      · simp [be_length]
      · split <;> simp [be_length]
theorem takeB_len (m : Rcv) (l : List UInt8) : (takeB m l).length ≤ 1000 := by
  unfold takeB
  split
  · simp
  · split
    · simp
    · rename_i f _ _
      have := feed_len (takeE m l) (((m.at_ f.cid).missed + 1) % 256) f.cid
      omega

set_option maxRecDepth 100000 in
set_option maxHeartbeats 4000000 in
theorem wtake_any (B : Nat) (wd gp gB gr gy ge gl : Nat) (vs : Value) (fs : List (List UInt8)) (bk : List UInt8) (m : Rcv) (d : Doc) (l : List UInt8) (w : World) (hW : WAt B w wd gp gB (.pointer (some ⟨gr, 0, none⟩)) vs fs bk) (hS : RAt B w gr gy ge gl m d) (hE : EndsR m d) (hl : l.length ≤ 9223372036854775807) :
    Calls Tryz.prog 17 #[.pointer (some ⟨wd, 0, none⟩), .string (bs l)] w fun e w' => e = .returned (.bool true) ∧ TookPost B w wd gp gB gr gy ge gl vs fs bk w' := by
  have HW := hide hW
  have HS := hide hS
  have HE := hide hE
  obtain ⟨P, hP⟩ : ∃ P, P = takeP m l := ⟨_, rfl⟩
  obtain ⟨T, hT⟩ : ∃ T, T = takeB m l := ⟨_, rfl⟩
  obtain ⟨N, hN⟩ : ∃ N, N = takeE m l := ⟨_, rfl⟩
  have HP := hide hP
  have HT := hide hT
  have HN := hide hN
  have c0 : w.cell? ⟨wd, 1, none⟩ = some (.pointer (some ⟨gr, 0, none⟩)) := block_cell hW.blk 1
  have c1 : w.cell? ⟨gr, 1, none⟩ = some (.pointer (some ⟨gy, 0, none⟩)) := block_cell hS.pair 1
  have hlw := hW.lw
  have hwd := block_lt hW.blk
  have hBw : B ≤ w.heap.size := by omega
  clear hW hS hE hP hT hN
  go_enter Tryz.func17, Tryz.ntmps17
  go_wp2_with fail
  go_at_call 31
  refine (gtake_any m gy l _ (unhide HE).ok (unhide HS).rcv hl).mono ?_
  rintro e w1 ⟨rfl, h1, h2⟩
  rw [← unhide HP, ← unhide HT, ← unhide HN]
  have oT : OnlyT [91] w w1 := OnlyT.of_only h2 (fun q e => by subst e; exact ⟨_, _, _, (unhide HS).rcv, by simp⟩)
  have S1 : RAt B w1 gr gy ge gl (takeM m l) d := ⟨oT.keep (unhide HS).pair (by decide), h1, ⟨oT.keep (unhide HS).doc.head (by decide), oT.keep (unhide HS).doc.rows (by decide), (unhide HS).doc.sl⟩, (unhide HS).sts.same (fun q cs hq => oT.block q cs _ _ hq (by decide)), (unhide HS).ls, (unhide HS).le, (unhide HS).ll⟩
  have W1 := (unhide HW).onlyT oT (by decide) (by decide)
  have c0 : w1.cell? ⟨wd, 1, none⟩ = some (.pointer (some ⟨gr, 0, none⟩)) := block_cell W1.blk 1
  have c2 : w1.cell? ⟨gr, 2, none⟩ = some (.pointer (some ⟨ge, 0, none⟩)) := block_cell S1.pair 2
  have HS1 := hide S1
  have HW1 := hide W1
  have HO1 := hide h2
  have hz1 := h2.size
  have hwd1 := block_lt W1.blk
  have hgr1 := block_lt S1.pair
  clear h1 h2 oT S1 W1 c1
  unfold Pk.cells
  go_wp2_with fail
  have PB1 := hide (heap_alloc_new w1 (.cells P.cells 43))
  have ba : Below w1.heap.size w1 (w1.alloc (.cells P.cells 43)) := (Below.refl _ _).alloc (Nat.le_refl _) _
  have S2 := (unhide HS1).grew ba
  have HW2 := hide ((unhide HW1).grew ba)
  go_at_call 32
  refine (dtake_any m d l ge gl B _ (unhide HE).ok (unhide HE).rel (unhide HE).cids S2.doc S2.sts (by simp; omega) hl).mono ?_
  rintro e w2 ⟨he, d', r1, r2, r3, r4, r5⟩
  subst he
  rw [← unhide HP, ← unhide HT, ← unhide HN]
  have oT : OnlyT [126] (w1.alloc (.cells P.cells 43)) w2 := OnlyT.of_only r5 (fun q e => by subst e; exact ⟨_, _, _, S2.doc.rows, by simp⟩)
  have PB2 := oT.keep (unhide PB1) (by decide)
  have S3 : RAt B w2 gr gy ge gl (takeM m l) d' := ⟨oT.keep S2.pair (by decide), oT.keep S2.rcv (by decide), r3, r4, S2.ls, S2.le, S2.ll⟩
  have W3 := (unhide HW2).onlyT oT (by decide) (by decide)
  have E3 : EndsR (takeM m l) d' := ⟨take_ok2 (unhide HE).ok l, r1, by rw [takeM_cids]; exact r2, idle_take (unhide HE).ok (unhide HE).idle l⟩
  have O3 : Only (takeS wd gy gl) w w2 := ((unhide HO1).mono (fun q e => Or.inr (Or.inl e))).trans ((Only.of_below ba).trans (r5.mono (fun q e => Or.inr (Or.inr e))))
  have b0 : w2.cell? ⟨w1.heap.size, 0, none⟩ = some (.int .u32 (P.src : Int)) := block_cell PB2 0
  have b1 : w2.cell? ⟨w1.heap.size, 1, none⟩ = some (.int .u32 (P.dst : Int)) := block_cell PB2 1
  have b2 : w2.cell? ⟨w1.heap.size, 2, none⟩ = some (.int .u16 (P.port : Int)) := block_cell PB2 2
  have b3 : w2.cell? ⟨w1.heap.size, 3, none⟩ = some (.int .u16 (P.seq : Int)) := block_cell PB2 3
  have b4 : w2.cell? ⟨w1.heap.size, 4, none⟩ = some (.int .u32 (P.time : Int)) := block_cell PB2 4
  have b5 : w2.cell? ⟨w1.heap.size, 5, none⟩ = some (.int .u16 (P.id : Int)) := block_cell PB2 5
  have b6 : w2.cell? ⟨w1.heap.size, 6, none⟩ = some (.int .u8 (P.flags : Int)) := block_cell PB2 6
  have b7 : w2.cell? ⟨w1.heap.size, 7, none⟩ = some (.string (bs P.body)) := block_cell PB2 7
  have hw1 : w1.heap.size < w2.heap.size := block_lt PB2
  have hwd2 : wd < w2.heap.size := block_lt W3.blk
  have hne : wd ≠ w1.heap.size := by omega
  have d3 : w2.cell? ⟨wd, 3, none⟩ = some (.string (bs bk)) := block_cell W3.blk 3
  have f3 : w2.frozen? ⟨wd, 3, none⟩ = false := block_free W3.blk 3
  have hTl := takeB_len m l
  rw [← unhide HT] at hTl
  have HS3 := hide S3
  have HW3 := hide W3
  have HE3 := hide E3
  have HO3 := hide O3
  clear r1 r2 r3 r4 r5 oT PB2 S3 W3 E3 O3 S2 c0 c2 PB1
  unfold Pk.cells
  by_cases hT0 : T = []
  · subst hT0
    have he0 : ((bs []).toList == ([] : List UInt8)) = true := by rw [bs_toList]; rfl
    go_wp2_with (go_at_call 13; refine (bits.num_any _ _).mono ?_; rintro e w5 ⟨rfl, h5⟩; have h5 := h5.symm; subst h5)
    go_ret
    have bb : Below w2.heap.size w2 (w2.alloc (.cells P.cells 43)) := (Below.refl _ _).alloc (Nat.le_refl _) _
    exact ⟨rfl, _, _, bk, unhide HE3, (unhide HS3).grew bb, (unhide HW3).grew bb, fun h => h, (unhide HO3).trans (Only.of_below bb)⟩
  · have he0 : ((bs T).toList == ([] : List UInt8)) = false := by
      rw [beq_eq_false_iff_ne, bs_toList]
      exact hT0
    have hTp : 0 < T.length := List.length_pos_iff.2 hT0
    have hTe : T.isEmpty = false := by cases T with | nil => exact absurd rfl hT0 | cons a b => rfl
    go_wp2_with (go_at_call 13; refine (bits.num_any _ _).mono ?_; rintro e w5 ⟨rfl, h5⟩; have h5 := h5.symm; subst h5)
    go_ret
    have W4 := unhide HW3
    have p5 : OnlyT [63] w2 (w2.setCell ⟨wd, 3, none⟩ (.string (bs T))) := OnlyT.cell W4.blk (by simp) _
    have W5 : WAt B (w2.setCell ⟨wd, 3, none⟩ (.string (bs T))) wd gp gB (.pointer (some ⟨gr, 0, none⟩)) vs fs T := ⟨block_put W4.blk 3 _, p5.own W4.sent (by decide), hlw⟩
    have S5 := (unhide HS3).onlyT p5 (by decide) (by decide) (by decide) (by decide) (by decide)
    have O5 : Only (takeS wd gy gl) w (w2.setCell ⟨wd, 3, none⟩ (.string (bs T))) := Only.setCell (S := takeS wd gy gl) (p := ⟨wd, 3, none⟩) (unhide HO3) (Or.inl rfl) _
    have bb : Below (w2.setCell ⟨wd, 3, none⟩ (.string (bs T))).heap.size (w2.setCell ⟨wd, 3, none⟩ (.string (bs T))) ((w2.setCell ⟨wd, 3, none⟩ (.string (bs T))).alloc (.cells P.cells 43)) := (Below.refl _ _).alloc (Nat.le_refl _) _
    exact ⟨rfl, _, _, T, unhide HE3, S5.grew bb, W5.grew bb, fun _ => hTl, O5.trans (Only.of_below bb)⟩

def lpickN (c : Int) (n : Nat) : Nat := ((if c < 0 then -(c + 1) else c) % (n : Int)).toNat
theorem lpickN_lt (c : Int) {n : Nat} (h : 1 ≤ n) : lpickN c n < n := by
  unfold lpickN
  have b1 := Int.emod_nonneg (if c < 0 then -(c + 1) else c) (show (n : Int) ≠ 0 by omega)
  have b2 := Int.emod_lt_of_pos (if c < 0 then -(c + 1) else c) (show (0 : Int) < n by omega)
  omega
set_option maxRecDepth 100000 in
set_option maxHeartbeats 1000000 in
theorem lpick_any (c : Int) (n : Nat) (w : World) (h0 : -9223372036854775808 ≤ c) (h1 : c ≤ 9223372036854775807) (hn : 1 ≤ n) (hn2 : n ≤ 1073741824) :
    Calls Tryz.prog 33 #[.int .i64 c, .int .i64 n] w fun e w' => e = .returned (.int .i64 (lpickN c n : Nat)) ∧ w' = w := by
  unfold lpickN
  have nz : ¬ ((n : Int) = 0) := by omega
  by_cases hc : c < 0
  · rw [if_pos hc]
    obtain ⟨q, hq⟩ : ∃ q : Int, q = -(c + 1) := ⟨_, rfl⟩
    have w1 : IntKind.i64.wrap (c + 1) = c + 1 := by rw [IntKind.wrap_i64]; omega
    have w2 : IntKind.i64.wrap (-(c + 1)) = -(c + 1) := by rw [IntKind.wrap_i64]; omega
    have t1 : (-(c + 1)).tmod (n : Int) = (-(c + 1)) % (n : Int) := Int.tmod_eq_emod_of_nonneg (by omega)
    have b1 := Int.emod_nonneg (-(c + 1)) nz
    have b2 := Int.emod_lt_of_pos (-(c + 1)) (show (0 : Int) < n by omega)
    obtain ⟨r, hr⟩ : ∃ r : Int, r = (-(c + 1)) % (n : Int) := ⟨_, rfl⟩
    rw [← hr] at t1 b1 b2
    have w3 : IntKind.i64.wrap r = r := by rw [IntKind.wrap_i64]; omega
    rw [← hr, Int.toNat_of_nonneg b1]
    clear hr hq
    go_enter Tryz.func33, Tryz.ntmps33
    go_wp2
    go_ret
    exact ⟨rfl, rfl⟩
  · rw [if_neg hc]
    have t1 : c.tmod (n : Int) = c % (n : Int) := Int.tmod_eq_emod_of_nonneg (by omega)
    have b1 := Int.emod_nonneg c nz
    have b2 := Int.emod_lt_of_pos c (show (0 : Int) < n by omega)
    obtain ⟨r, hr⟩ : ∃ r : Int, r = c % (n : Int) := ⟨_, rfl⟩
    rw [← hr] at t1 b1 b2
    have w3 : IntKind.i64.wrap r = r := by rw [IntKind.wrap_i64]; omega
    rw [← hr, Int.toNat_of_nonneg b1]
    clear hr
    go_enter Tryz.func33, Tryz.ntmps33
    go_wp2
    go_ret
    exact ⟨rfl, rfl⟩

set_option maxRecDepth 100000 in
set_option maxHeartbeats 2000000 in
theorem spoilt_any (f s : List UInt8) (w : World) (hf : f.length ≤ 1000) (hs : s.length ≤ maxLen) :
    Calls Tryz.prog 34 #[.string (bs f), .string (bs s)] w fun e w' => (∃ t : List UInt8, t.length ≤ 1000 ∧ e = .returned (.string (bs t))) ∧ Below w.heap.size w w' := by
  have hsI : (s.length : Int) ≤ 9223372036854775807 := by unfold maxLen at hs; omega
  by_cases h2 : s.length < 2
  · have h2I : (s.length : Int) < 2 := by omega
    go_enter Tryz.func34, Tryz.ntmps34
    go_wp2
    go_ret
    exact ⟨⟨f, hf, rfl⟩, Below.refl _ _⟩
  · have h2I : ¬ ((s.length : Int) < 2) := by omega
    by_cases h0 : f = []
    · subst h0
      have he0 : ((bs []).toList == ([] : List UInt8)) = true := by rw [bs_toList]; rfl
      go_enter Tryz.func34, Tryz.ntmps34
      go_wp2
      go_ret
      exact ⟨⟨[], by simp, rfl⟩, Below.refl _ _⟩
    · have he0 : ((bs f).toList == ([] : List UInt8)) = false := by
        rw [beq_eq_false_iff_ne, bs_toList]
        exact h0
      have hfp : 0 < f.length := List.length_pos_iff.2 h0
      have hfe : f.isEmpty = false := by cases f with | nil => exact absurd rfl h0 | cons a b => rfl
      have s0 : 0 < (bs s).size := by rw [bs_size]; omega
      have b0 := byte_at s 0 (by omega) s0
      have l0 := byteN_lt s 0
      obtain ⟨Q, hQ⟩ : ∃ Q, Q = byteN s 0 := ⟨_, rfl⟩
      rw [← hQ] at b0 l0
      obtain ⟨a, ha⟩ : ∃ a : Nat, a = Q % f.length := ⟨_, rfl⟩
      have hal : a < f.length := by rw [ha]; exact Nat.mod_lt _ hfp
      have t1 : (Q : Int).tmod (f.length : Int) = (a : Int) := by rw [ha, Int.tmod_eq_emod_of_nonneg (by omega)]; simp
      have nz : ¬ ((f.length : Int) = 0) := by omega
      have w1 : IntKind.i64.wrap (a : Int) = (a : Int) := by rw [IntKind.wrap_i64]; omega
      have w2 : IntKind.i64.wrap ((a : Int) + 1) = (a : Int) + 1 := by rw [IntKind.wrap_i64]; omega
      have i0 : (0 : Int) ≤ (a : Int) := by omega
      have i1 : (a : Int) ≤ (f.length : Int) := by omega
      have i2 : (0 : Int) ≤ (a : Int) + 1 := by omega
      have i3 : (a : Int) + 1 ≤ (f.length : Int) := by omega
      have i4 : (2 : Int) ≤ (s.length : Int) := by omega
      clear hQ ha h0
      go_enter Tryz.func34, Tryz.ntmps34
      go_wp2_with fail
      go_quiet (fail)
      all_goals go_wp2
      all_goals go_ret
      all_goals exact ⟨⟨_, by simp only [List.length_append, List.length_take, List.length_tail, List.length_drop]; omega, rfl⟩, below_drewN (Below.refl _ _) _⟩

set_option maxRecDepth 100000 in
set_option maxHeartbeats 4000000 in
theorem wpassed_any (B : Nat) (wd gp gB gr gy ge gl : Nat) (vs : Value) (fs : List (List UInt8)) (bk : List UInt8) (m : Rcv) (d : Doc) (o : Oq) (w : World) (hW : WAt B w wd gp gB (.pointer (some ⟨gr, 0, none⟩)) vs fs bk) (hS : RAt B w gr gy ge gl m d) (hE : EndsR m d) (ho : o.ok) (hfs : ∀ f ∈ fs, f.length ≤ 1000) (hfl : fs.length ≤ 1073741824) :
    Calls Tryz.prog 18 #[.pointer (some ⟨wd, 0, none⟩), .agg o.cells] w fun e w' => e = .returned (.bool true) ∧ TookPost B w wd gp gB gr gy ge gl vs fs bk w' := by
  obtain ⟨ao, cap, rfl⟩ := own_sl hW.sent
  have HW := hide hW
  have HS := hide hS
  have HE := hide hE
  have HF := hide hfs
  have c2 : w.cell? ⟨wd, 2, none⟩ = some (.slice ao fs.length cap) := block_cell hW.blk 2
  have hwd := block_lt hW.blk
  have ba : Below w.heap.size w (w.alloc (.cells o.cells 45)) := (Below.refl _ _).alloc (Nat.le_refl _) _
  have HBA := hide ba
  have OB := hide (heap_alloc_new w (.cells o.cells 45))
  obtain ⟨k0, k1, k2, k3⟩ := ho
  have K3 := hide k3
  clear hW hS hE hfs ba k2 k3
  obtain ⟨K, n, p, s⟩ := o
  simp only at k0 k1 K3
  unfold Oq.cells at *
  simp only at *
  by_cases h0 : fs.length = 0
  · rw [h0] at c2
    go_enter Tryz.func18, Tryz.ntmps18
    go_wp2
    go_ret
    exact ⟨rfl, m, d, bk, unhide HE, (unhide HS).grew (unhide HBA), (unhide HW).grew (unhide HBA), fun h => h, Only.of_below (unhide HBA)⟩
  · obtain ⟨sb, hao, hcells⟩ : ∃ sb, ao = some ⟨sb, 0, none⟩ ∧ ∀ i (hi : i < fs.length), w.cell? ⟨sb, i, none⟩ = some (.string (bs fs[i])) := by
      rcases (unhide HW).sent.2 with ⟨_, h1⟩ | ⟨g, cap', cur, h1, _⟩
      · omega
      · simp at h1
        refine ⟨g, h1.1, fun i hi => ?_⟩
        have := (unhide HW).sent
        rw [h1.1] at this
        rw [this.cellAt i (by omega)]
        simp [strs, List.getElem?_eq_getElem hi]
    subst hao
    obtain ⟨i, hi⟩ : ∃ i, i = lpickN n fs.length := ⟨_, rfl⟩
    have hil : i < fs.length := by rw [hi]; exact lpickN_lt n (by omega)
    obtain ⟨F, hF⟩ : ∃ F, F = fs[i] := ⟨_, rfl⟩
    have cf := hcells i hil
    rw [← hF] at cf
    have hFl : F.length ≤ 1000 := by rw [hF]; exact unhide HF _ (List.getElem_mem hil)
    have hsb := lt_of_cell cf
    have HPK := hide (show ∀ w : World, Calls Tryz.prog 33 #[.int .i64 n, .int .i64 fs.length] w fun e w' => e = .returned (.int .i64 (i : Nat)) ∧ w' = w by
      intro w; rw [hi]; exact lpick_any n fs.length w k1.1 k1.2 (by omega) hfl)
    have i0 : (0 : Int) ≤ (i : Int) := by omega
    have i1 : (i : Int) < (fs.length : Int) := by omega
    have nz : ¬ ((fs.length : Int) = 0) := by omega
    have C2 := hide c2
    clear hi hcells hF h0
    have c2a : (w.alloc (.cells #[.int .i64 K, .int .i64 n, .int .u32 (p.src : Int), .int .u32 (p.dst : Int), .int .u16 (p.port : Int), .int .u16 (p.seq : Int), .int .u32 (p.time : Int), .int .u16 (p.id : Int), .int .u8 (p.flags : Int), .string (bs p.body), .string (bs s)] 45)).cell? ⟨wd, 2, none⟩ = some (.slice (some ⟨sb, 0, none⟩) fs.length cap) := keep_cell c2 (unhide HBA)
    go_enter Tryz.func18, Tryz.ntmps18
    go_upto_region 3 with fail
    have CF := hide (keep_cell cf (unhide HBA))
    clear c2 cf hwd hsb
    generalize w.alloc (.cells #[.int .i64 K, .int .i64 n, .int .u32 (p.src : Int), .int .u32 (p.dst : Int), .int .u16 (p.port : Int), .int .u16 (p.seq : Int), .int .u32 (p.time : Int), .int .u16 (p.id : Int), .int .u8 (p.flags : Int), .string (bs p.body), .string (bs s)] 45) = wa at *
    have cf := unhide CF
    have o1 : wa.cell? ⟨w.heap.size, 1, none⟩ = some (.int .i64 n) := block_cell (unhide OB) 1
    have cfd : wa.drew.cell? ⟨sb, i, none⟩ = some (.string (bs F)) := cf
    have o1d : wa.drew.cell? ⟨w.heap.size, 1, none⟩ = some (.int .i64 n) := o1
    have c2d : wa.drew.cell? ⟨wd, 2, none⟩ = some (.slice (some ⟨sb, 0, none⟩) fs.length cap) := c2a
    go_cut [5] (fun v wx => v = .string (bs F) ∧ Below wa.heap.size wa wx)
    case first =>
      go_region_with ((go_at_call 33; refine (unhide HPK _).mono ?_; rintro e w5 ⟨rfl, h5⟩; have h5 := h5.symm; subst h5))
      all_goals go_wp2_with fail
      all_goals go_meet
      all_goals (case rel => exact ⟨rfl, (Below.refl _ _).drew⟩)
    case rest =>
      obtain ⟨rfl, hb5⟩ := hcut
      have HB5 := hide (grew_call (unhide HBA) hb5)
      have OB5 := block_keep (unhide OB) hb5
      have o0 : wc.cell? ⟨w.heap.size, 0, none⟩ = some (.int .i64 K) := block_cell OB5 0
      have o10 : wc.cell? ⟨w.heap.size, 10, none⟩ = some (.string (bs s)) := block_cell OB5 10
      clear hb5 OB5 cf cfd o1 o1d c2a c2d CF
      have HTK := hide (show ∀ (W : World) (t : List UInt8), t.length ≤ 1000 → Below w.heap.size w W → Calls Tryz.prog 17 #[.pointer (some ⟨wd, 0, none⟩), .string (bs t)] W fun e w' => e = .returned (.bool true) ∧ TookPost B w wd gp gB gr gy ge gl (.slice (some ⟨sb, 0, none⟩) fs.length cap) fs bk w' by
        intro W t ht hW
        refine (wtake_any B wd gp gB gr gy ge gl _ fs bk m d t W ((unhide HW).grew hW) ((unhide HS).grew hW) (unhide HE) (by omega)).mono ?_
        rintro e w' ⟨rfl, m', d', bk', r1, r2, r3, r4, r5⟩
        exact ⟨rfl, m', d', bk', r1, r2, r3, r4, (Only.of_below hW).trans r5⟩)
      by_cases h7 : K = 7
      · subst h7
        go_wp2_with (first
          | (go_at_call 34; refine (spoilt_any F s _ hFl (unhide K3)).mono ?_; rintro e w6 ⟨⟨t, ht, rfl⟩, hb6⟩; have HB6 := hide (grew_call (unhide HB5) hb6); clear hb6)
          | (go_at_call 17; refine (unhide HTK _ t ht (unhide HB6)).mono ?_; rintro e w7 ⟨rfl, h7⟩; have H7 := hide h7; clear h7))
        go_ret
        exact ⟨rfl, unhide H7⟩
      · have h7I : ¬ (K = 7) := h7
        have h7b : (K == 7) = false := beq_eq_false_iff_ne.2 h7
        go_wp2_with (go_at_call 17; refine (unhide HTK _ F hFl (unhide HB5)).mono ?_; rintro e w7 ⟨rfl, h7'⟩; have H7 := hide h7'; clear h7')
        go_ret
        exact ⟨rfl, unhide H7⟩

end Go.Proofs.YtgpojbgjfibblabGreat.texts
