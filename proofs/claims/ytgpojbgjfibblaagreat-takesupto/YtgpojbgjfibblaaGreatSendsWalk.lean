/-
  The walk of the statement Sends (package gistlaw).
  Conditions stand in each theorem.
-/
import Derived.Test.YtgpojbgjfibblaaGreatStepOp
namespace Go.Proofs.YtgpojbgjfibblaaGreat.texts
open Go.RowKit
set_option linter.unusedVariables false
attribute [local go_sem ↓] Go.wp_at_zero Go.wp_at_succ

/-- a slice value reads as a script -/
structure OpsAt (w : World) (v : Value) (S : List Oq) (ao : Option Addr) (b off cap : Nat) : Prop where
  form : v = .slice ao S.length cap
  addr : 0 < S.length → ao = some ⟨b, off, none⟩
  cell : ∀ (i : Nat) (hi : i < S.length) (j : Nat), j < 11 → w.cell? ⟨b, off + i * 11 + j, none⟩ = (S[i]).cells[j]?
theorem OpsAt.lt {w : World} {v : Value} {S : List Oq} {ao : Option Addr} {b off cap : Nat} (h : OpsAt w v S ao b off cap) (hn : 0 < S.length) : b < w.heap.size := by
  have h1 := h.cell 0 hn 0 (by omega)
  by_cases h2 : b < w.heap.size
  · exact h2
  · simp [World.cell?, Array.getElem?_eq_none (Nat.le_of_not_lt h2), Oq.cells] at h1
theorem OpsAt.cells {w w1 : World} {v : Value} {S : List Oq} {ao : Option Addr} {b off cap : Nat} (h : OpsAt w v S ao b off cap) (hb : Below w.heap.size w w1) {i : Nat} (hi : i < S.length) {o : Oq} (ho : S[i] = o) :
    w1.cell? ⟨b, off + i * 11, none⟩ = some (.int .i64 o.kind) ∧ w1.cell? ⟨b, off + i * 11 + 1, none⟩ = some (.int .i64 o.n) ∧ w1.cell? ⟨b, off + i * 11 + 2, none⟩ = some (.int .u32 o.p.src) ∧ w1.cell? ⟨b, off + i * 11 + 3, none⟩ = some (.int .u32 o.p.dst) ∧ w1.cell? ⟨b, off + i * 11 + 4, none⟩ = some (.int .u16 o.p.port) ∧ w1.cell? ⟨b, off + i * 11 + 5, none⟩ = some (.int .u16 o.p.seq) ∧ w1.cell? ⟨b, off + i * 11 + 6, none⟩ = some (.int .u32 o.p.time) ∧ w1.cell? ⟨b, off + i * 11 + 7, none⟩ = some (.int .u16 o.p.id) ∧ w1.cell? ⟨b, off + i * 11 + 8, none⟩ = some (.int .u8 o.p.flags) ∧ w1.cell? ⟨b, off + i * 11 + 9, none⟩ = some (.string (bs o.p.body)) ∧ w1.cell? ⟨b, off + i * 11 + 10, none⟩ = some (.string (bs o.s)) := by
  have key : ∀ (j : Nat) (u : Value), j < 11 → o.cells[j]? = some u → w1.cell? ⟨b, off + i * 11 + j, none⟩ = some u := fun j u hj hu => keep_cell (by rw [h.cell i hi j hj, ho]; exact hu) hb
  exact ⟨key 0 _ (by omega) rfl, key 1 _ (by omega) rfl, key 2 _ (by omega) rfl, key 3 _ (by omega) rfl, key 4 _ (by omega) rfl, key 5 _ (by omega) rfl, key 6 _ (by omega) rfl, key 7 _ (by omega) rfl, key 8 _ (by omega) rfl, key 9 _ (by omega) rfl, key 10 _ (by omega) rfl⟩

/-- one of the two senders -/
def Half (B : Nat) (w : World) (gB t wd gp gs ge gl : Nat) (vs : Value) : Prop :=
  ∃ fs bk m d k, WAt B w wd gp gB (.pointer none) vs fs bk ∧ SAt B w gp gs ge gl m d ∧ Ends m d k ∧ d.sent ≤ t ∧ fs.length ≤ t
/-- both, and the book -/
def SendsIn (B : Nat) (w : World) (gB i wd1 wd2 : Nat) (wr : World) : Prop :=
  ∃ gp1 gs1 ge1 gl1 vs1 gp2 gs2 ge2 gl2 vs2 vF vM next K, Half B wr gB i wd1 gp1 gs1 ge1 gl1 vs1 ∧ Half B wr gB i wd2 gp2 gs2 ge2 gl2 vs2 ∧ wd1 ≠ wd2 ∧ gs1 ≠ gs2 ∧ ge1 ≠ ge2 ∧ gl1 ≠ gl2 ∧ (∀ g, vs1.ownBlock = some g → vs2.ownBlock ≠ some g)
    ∧ BkAt B wr gB vF vM (.slice none 0 0) (.slice none 0 0) next K ∧ FShorts K ∧ K.length ≤ 8 * i ∧ -(2 * (i : Int)) ≤ next ∧ next ≤ 0 ∧ Below B w wr
theorem Half.grew {B : Nat} {w w' : World} {gB t wd gp gs ge gl : Nat} {vs : Value} (h : Half B w gB t wd gp gs ge gl vs) (hb : Below w.heap.size w w') (t' : Nat) (ht : t ≤ t') : Half B w' gB t' wd gp gs ge gl vs := by
  obtain ⟨fs, bk, m, d, k, h1, h2, h3, h4, h5⟩ := h
  exact ⟨fs, bk, m, d, k, h1.grew hb, h2.grew hb, h3, by omega, by omega⟩
theorem SendsIn.low {B : Nat} {w wr : World} {gB i wd1 wd2 : Nat} (h : SendsIn B w gB i wd1 wd2 wr) : B ≤ wr.heap.size := by
  obtain ⟨gp1, gs1, ge1, gl1, vs1, gp2, gs2, ge2, gl2, vs2, vF, vM, next, K, h1, h2, n1, n2, n3, n4, n5, bk, fsh, kl, nl, nu, bel⟩ := h
  have := bk.low
  have := block_lt bk.blk
  omega
theorem SendsIn.grew {B : Nat} {w wr w' : World} {gB i wd1 wd2 : Nat} (h : SendsIn B w gB i wd1 wd2 wr) (hb : Below wr.heap.size wr w') {i' : Nat} (hi : i ≤ i') : SendsIn B w gB i' wd1 wd2 w' := by
  have hl := h.low
  obtain ⟨gp1, gs1, ge1, gl1, vs1, gp2, gs2, ge2, gl2, vs2, vF, vM, next, K, h1, h2, n1, n2, n3, n4, n5, bk, fsh, kl, nl, nu, bel⟩ := h
  exact ⟨gp1, gs1, ge1, gl1, vs1, gp2, gs2, ge2, gl2, vs2, vF, vM, next, K, h1.grew hb i' hi, h2.grew hb i' hi, n1, n2, n3, n4, n5, bk.grew hb, fsh, by omega, by omega, nu, bel.trans (hb.mono hl)⟩
theorem SendsIn.swap {B : Nat} {w wr : World} {gB i wd1 wd2 : Nat} (h : SendsIn B w gB i wd1 wd2 wr) : SendsIn B w gB i wd2 wd1 wr := by
  obtain ⟨gp1, gs1, ge1, gl1, vs1, gp2, gs2, ge2, gl2, vs2, vF, vM, next, K, h1, h2, n1, n2, n3, n4, n5, bk, fsh, kl, nl, nu, bel⟩ := h
  exact ⟨gp2, gs2, ge2, gl2, vs2, gp1, gs1, ge1, gl1, vs1, vF, vM, next, K, h2, h1, fun e => n1 e.symm, fun e => n2 e.symm, fun e => n3 e.symm, fun e => n4 e.symm, fun g e1 e2 => n5 g e2 e1, bk, fsh, kl, nl, nu, bel⟩
theorem only_low {S : Nat → Prop} {B : Nat} {w w' : World} (h : Only S w w') (hB : B ≤ w.heap.size) (hS : ∀ k, S k → B ≤ k) : Below B w w' :=
  ⟨h.os, h.tape, h.output, h.size, fun k hk => h.block k (by omega) (fun e => by have := hS k e; omega)⟩
/-- a send or a hear of the first -/
theorem SendsIn.sent {B : Nat} {w wr w' : World} {gB i wd1 wd2 gp1 gs1 ge1 gl1 gp2 gs2 ge2 gl2 : Nat} {vs1 vs2 vF vM : Value} {next : Int} {K : List (Value × Int)} {fs1 : List (List UInt8)} {bk1 : List UInt8} {m1 : Snd} {d1 : Doc}
    (hW : WAt B wr wd1 gp1 gB (.pointer none) vs1 fs1 bk1) (hS : SAt B wr gp1 gs1 ge1 gl1 m1 d1) (hd : d1.sent ≤ i) (hf : fs1.length ≤ i)
    (h2 : Half B wr gB i wd2 gp2 gs2 ge2 gl2 vs2) (n1 : wd1 ≠ wd2) (n2 : gs1 ≠ gs2) (n3 : ge1 ≠ ge2) (n4 : gl1 ≠ gl2) (n5 : ∀ g, vs1.ownBlock = some g → vs2.ownBlock ≠ some g)
    (bk : BkAt B wr gB vF vM (.slice none 0 0) (.slice none 0 0) next K) (fsh : FShorts K) (kl : K.length ≤ 8 * i) (nl : -(2 * (i : Int)) ≤ next) (nu : next ≤ 0) (bel : Below B w wr)
    (h : SentPost B wr wd1 gp1 gs1 ge1 gl1 gB (.pointer none) vs1 bk1 fs1 d1 w') : SendsIn B w gB (i + 1) wd1 wd2 w' := by
  obtain ⟨m', d', k', vs', fs', E', e1, e2, _, S', W', e4, o⟩ := h
  obtain ⟨fs2, bk2, m2, d2, k2, hW2, hS2, E2, c1, c2⟩ := h2
  have ty : ∀ k, sendS wd1 gs1 ge1 gl1 vs1 k → ∃ cs t fr, wr.heap[k]? = some (.cells cs t fr) ∧ t ∈ [62, 83, 86, 109, 9] := by
    rintro k (rfl | rfl | rfl | rfl | e)
    · exact ⟨_, _, _, hW.blk, by simp⟩
    · exact ⟨_, _, _, hS.snd, by simp⟩
    · exact ⟨_, _, _, hS.doc.head, by simp⟩
    · exact ⟨_, _, _, hS.doc.rows, by simp⟩
    · obtain ⟨cur, hc⟩ := own_ty hW.sent e
      exact ⟨_, _, _, hc, by simp⟩
  have oT := OnlyT.of_only o ty
  have lowS : ∀ k, sendS wd1 gs1 ge1 gl1 vs1 k → B ≤ k := by
    rintro k (rfl | rfl | rfl | rfl | e)
    · exact hW.lw
    · exact hS.ls
    · exact hS.le
    · exact hS.ll
    · exact (hW.sent.lt k e).1
  have hlow : B ≤ wr.heap.size := by have := bk.low; have := block_lt bk.blk; omega
  have S2 : SAt B w' gp2 gs2 ge2 gl2 m2 d2 := by
    refine hS2.rest o (fun k e => ?_) ?_ ?_ ?_
    · obtain ⟨cs, t, fr, a, b⟩ := ty k e
      refine ⟨cs, t, fr, a, fun e => ?_, fun e => ?_⟩ <;> (rw [e] at b; exact absurd b (by decide))
    · rintro (e | e | e | e | e)
      · exact apart_ty hS2.snd hW.blk (by decide) e
      · exact n2 e.symm
      · exact apart_ty hS2.snd hS.doc.head (by decide) e
      · exact apart_ty hS2.snd hS.doc.rows (by decide) e
      · obtain ⟨cur, hc⟩ := own_ty hW.sent e
        exact apart_ty hS2.snd hc (by decide) rfl
    · rintro (e | e | e | e | e)
      · exact apart_ty hS2.doc.head hW.blk (by decide) e
      · exact apart_ty hS2.doc.head hS.snd (by decide) e
      · exact n3 e.symm
      · exact apart_ty hS2.doc.head hS.doc.rows (by decide) e
      · obtain ⟨cur, hc⟩ := own_ty hW.sent e
        exact apart_ty hS2.doc.head hc (by decide) rfl
    · rintro (e | e | e | e | e)
      · exact apart_ty hS2.doc.rows hW.blk (by decide) e
      · exact apart_ty hS2.doc.rows hS.snd (by decide) e
      · exact apart_ty hS2.doc.rows hS.doc.head (by decide) e
      · exact n4 e.symm
      · obtain ⟨cur, hc⟩ := own_ty hW.sent e
        exact apart_ty hS2.doc.rows hc (by decide) rfl
  have W2 : WAt B w' wd2 gp2 gB (.pointer none) vs2 fs2 bk2 := by
    refine hW2.rest o ?_ (fun g hg => ?_)
    · rintro (e | e | e | e | e)
      · exact n1 e.symm
      · exact apart_ty hW2.blk hS.snd (by decide) e
      · exact apart_ty hW2.blk hS.doc.head (by decide) e
      · exact apart_ty hW2.blk hS.doc.rows (by decide) e
      · obtain ⟨cur, hc⟩ := own_ty hW.sent e
        exact apart_ty hW2.blk hc (by decide) rfl
    · obtain ⟨cu2, hc2⟩ := own_ty hW2.sent hg
      rintro (e | e | e | e | e)
      · exact apart_ty hc2 hW.blk (by decide) e
      · exact apart_ty hc2 hS.snd (by decide) e
      · exact apart_ty hc2 hS.doc.head (by decide) e
      · exact apart_ty hc2 hS.doc.rows (by decide) e
      · exact n5 g e hg
  have n5' : ∀ g, vs'.ownBlock = some g → vs2.ownBlock ≠ some g := by
    intro g a b
    rcases e4 with e | ⟨g', e, hg'⟩
    · rw [e] at a; exact n5 g a b
    · rw [e] at a
      simp at a
      obtain ⟨cu2, hc2⟩ := own_ty hW2.sent b
      have := block_lt hc2
      omega
  exact ⟨gp1, gs1, ge1, gl1, vs', gp2, gs2, ge2, gl2, vs2, vF, vM, next, K, ⟨fs', bk1, m', d', k', W', S', E', by omega, by omega⟩, ⟨fs2, bk2, m2, d2, k2, W2, S2, E2, by omega, by omega⟩, n1, n2, n3, n4, n5',
    bk.only oT (by decide) (by decide) (by decide) (by decide), fsh, by omega, by omega, nu, bel.trans (only_low o hlow lowS)⟩
/-- what is told goes into the book -/
theorem SendsIn.told {B : Nat} {w wr w' : World} {gB i wd1 wd2 gp1 gs1 ge1 gl1 gp2 gs2 ge2 gl2 : Nat} {vs1 vs2 : Value} {next : Int} {K : List (Value × Int)}
    (h1 : Half B wr gB i wd1 gp1 gs1 ge1 gl1 vs1) (h2 : Half B wr gB i wd2 gp2 gs2 ge2 gl2 vs2) (n1 : wd1 ≠ wd2) (n2 : gs1 ≠ gs2) (n3 : ge1 ≠ ge2) (n4 : gl1 ≠ gl2) (n5 : ∀ g, vs1.ownBlock = some g → vs2.ownBlock ≠ some g)
    (kl : K.length ≤ 8 * i) (nl : -(2 * (i : Int)) ≤ next) (nu : next ≤ 0) (bel : Below B w wr)
    (h : ToldPost B wr gB (.slice none 0 0) (.slice none 0 0) next K w') : SendsIn B w gB (i + 1) wd1 wd2 w' := by
  obtain ⟨vF', vM', K', bk', kl', fs', b', o'⟩ := h
  have half : ∀ {wd gp gs ge gl : Nat} {vs : Value}, Half B wr gB i wd gp gs ge gl vs → Half B w' gB (i + 1) wd gp gs ge gl vs := by
    rintro wd gp gs ge gl vs ⟨fs, bk, m, d, k, a1, a2, a3, a4, a5⟩
    exact ⟨fs, bk, m, d, k, a1.onlyT o' (by decide) (by decide), a2.onlyT o' (by decide) (by decide) (by decide) (by decide) (by decide), a3, by omega, by omega⟩
  exact ⟨gp1, gs1, ge1, gl1, vs1, gp2, gs2, ge2, gl2, vs2, vF', vM', next - 2, K', half h1, half h2, n1, n2, n3, n4, n5, bk', fs', by omega, by omega, by omega, bel.trans b'⟩

/-- the next step of the script -/
theorem sends_step (B : Nat) (w wr : World) (gB i wd1 wd2 : Nat) (o : Oq) (h : SendsIn B w gB i wd1 wd2 wr) (ho : o.ok) (hi : i ≤ 1048576) (hk : o.kind = 1 ∨ o.kind = 2 ∨ o.kind = 4) :
    Calls Tryz.prog 7 #[.pointer (some ⟨wd1, 0, none⟩), .agg o.cells] wr (Hands fun v w' => v = true ∧ SendsIn B w gB (i + 1) wd1 wd2 w') := by
  have hb : Below wr.heap.size wr (wr.alloc (.cells o.cells 43)) := (Below.refl _ _).alloc (Nat.le_refl _) _
  have h' := h.grew hb (Nat.le_refl i)
  obtain ⟨gp1, gs1, ge1, gl1, vs1, gp2, gs2, ge2, gl2, vs2, vF, vM, next, K, h1, h2, n1, n2, n3, n4, n5, bk, fsh, kl, nl, nu, bel⟩ := h'
  have h1' := h1
  obtain ⟨fs1, bk1, m1, d1, k1, hW, hS, hE, hd, hf⟩ := h1
  rcases hk with hk | hk | hk
  · refine step_send o wd1 wr _ hk ?_
    by_cases hbo : o.p.body.length ≤ 100
    · refine (wsend_short B wd1 gp1 gs1 ge1 gl1 gB _ vs1 fs1 bk1 m1 d1 k1 o.p _ hW hS hE ho.p hbo (by omega) (by omega)).mono ?_
      rintro e w2 ⟨rfl, hp⟩
      exact ⟨true, rfl, rfl, SendsIn.sent hW hS hd hf h2 n1 n2 n3 n4 n5 bk fsh kl nl nu bel hp⟩
    · refine (wsend_long B wd1 gp1 gs1 ge1 gl1 gB _ vs1 fs1 bk1 m1 d1 k1 o.p _ hW hS hE (by omega)).mono ?_
      rintro e w2 ⟨rfl, hp⟩
      exact ⟨true, rfl, rfl, SendsIn.sent hW hS hd hf h2 n1 n2 n3 n4 n5 bk fsh kl nl nu bel hp⟩
  · refine step_hear o wd1 wr _ hk ?_
    refine (whear_any B wd1 gp1 gs1 ge1 gl1 gB _ vs1 fs1 bk1 m1 d1 k1 o.s _ hW hS hE ho.s).mono ?_
    rintro e w2 ⟨rfl, hp⟩
    exact ⟨true, rfl, rfl, SendsIn.sent hW hS hd hf h2 n1 n2 n3 n4 n5 bk fsh kl nl nu bel hp⟩
  · refine step_sent o wd1 wr _ hk ?_
    refine (wtold_snd B wd1 gp1 gs1 ge1 gl1 gB _ vs1 fs1 bk1 m1 d1 k1 vF vM _ _ next K _ hW hS hE (by omega) bk fsh (by omega) (by omega) (by omega)).mono ?_
    rintro e w2 ⟨rfl, hp⟩
    exact ⟨true, rfl, rfl, SendsIn.told h1' h2 n1 n2 n3 n4 n5 kl nl nu bel hp⟩
/-- what the first tells at the end -/
theorem sends_told (B : Nat) (w wr : World) (gB i wd1 wd2 : Nat) (h : SendsIn B w gB i wd1 wd2 wr) (hi : i ≤ 1048580) :
    Calls Tryz.prog 9 #[.pointer (some ⟨wd1, 0, none⟩), .bool true] wr fun e w' => e = .returned (.bool true) ∧ SendsIn B w gB (i + 1) wd1 wd2 w' := by
  obtain ⟨gp1, gs1, ge1, gl1, vs1, gp2, gs2, ge2, gl2, vs2, vF, vM, next, K, h1, h2, n1, n2, n3, n4, n5, bk, fsh, kl, nl, nu, bel⟩ := h
  have h1' := h1
  obtain ⟨fs1, bk1, m1, d1, k1, hW, hS, hE, hd, hf⟩ := h1
  refine (wtold_snd B wd1 gp1 gs1 ge1 gl1 gB _ vs1 fs1 bk1 m1 d1 k1 vF vM _ _ next K _ hW hS hE (by omega) bk fsh (by omega) (by omega) (by omega)).mono ?_
  rintro e w2 ⟨rfl, hp⟩
  exact ⟨rfl, SendsIn.told h1' h2 n1 n2 n3 n4 n5 kl nl nu bel hp⟩
/-- the book is looked at -/
theorem sends_looks (B : Nat) (w wr : World) (gB i wd1 wd2 : Nat) (h : SendsIn B w gB i wd1 wd2 wr) (hi : i ≤ 1048590) :
    Calls Tryz.prog 8 #[.pointer (some ⟨gB, 0, none⟩)] wr fun e w' => e = .returned (.bool true) ∧ SendsIn B w gB i wd1 wd2 w' := by
  have h' := h
  obtain ⟨gp1, gs1, ge1, gl1, vs1, gp2, gs2, ge2, gl2, vs2, vF, vM, next, K, h1, h2, n1, n2, n3, n4, n5, bk, fsh, kl, nl, nu, bel⟩ := h
  refine (flooks_any B _ gB vF vM _ _ next K [] bk fsh (by omega) (TxAt.nil B _) (by simp)).mono ?_
  rintro e w2 ⟨rfl, hb⟩
  exact ⟨rfl, h'.grew hb (Nat.le_refl i)⟩

theorem WAt.dn {B B' : Nat} {w : World} {wd gp gB : Nat} {rv vs : Value} {fs : List (List UInt8)} {bk : List UInt8} (h : WAt B w wd gp gB rv vs fs bk) (hb : B' ≤ B) : WAt B' w wd gp gB rv vs fs bk := ⟨h.blk, own_dn h.sent hb, Nat.le_trans hb h.lw⟩
theorem SAt.dn {B B' : Nat} {w : World} {gp gs ge gl : Nat} {m : Snd} {d : Doc} (h : SAt B w gp gs ge gl m d) (hb : B' ≤ B) : SAt B' w gp gs ge gl m d :=
  ⟨h.pair, h.snd, h.doc, fun i hi => ⟨own_dn (h.sts i hi).1 hb, (h.sts i hi).2⟩, Nat.le_trans hb h.ls, Nat.le_trans hb h.le, Nat.le_trans hb h.ll⟩
theorem bk_new (B : Nat) (w : World) (h : B ≤ w.heap.size) : BkAt B (w.alloc (.cells #[.slice none 0 0, .slice none 0 0, .slice none 0 0, .slice none 0 0, .int .i64 0] 31)) w.heap.size (.slice none 0 0) (.slice none 0 0) (.slice none 0 0) (.slice none 0 0) 0 [] :=
  ⟨heap_alloc_new w _, World.ownsRow_nil _ _ _ _, World.ownsRow_nil _ _ _ _, h, fun e he => by simp at he⟩

set_option maxRecDepth 100000 in
set_option maxHeartbeats 8000000 in
theorem sends_yes (w : World) (c k r : Nat) (v : Value) (S : List Oq) (ao : Option Addr) (b off cap : Nat) (hT : OpsAt w v S ao b off cap) (hok : ∀ (i : Nat) (hi : i < S.length), (S[i]).ok) (hm : S.length ≤ 1048576) (h1 : 1 ≤ c) (h2 : c ≤ 8) (h3 : 1 ≤ k) (h4 : k ≤ 4) (h5 : 2 ≤ r) (h6 : r ≤ 100) :
    Calls Tryz.prog 3 #[.agg #[.int .i64 c, .int .i64 k, .int .i64 r], v] w fun e w' => e = .returned (.bool true) ∧ Below w.heap.size w w' := by
  obtain ⟨rfl, ha, hcell⟩ := hT
  have HT : Hid (OpsAt w (.slice ao S.length cap) S ao b off cap) := ⟨rfl, ha, hcell⟩
  have HA := hide ha
  have HOK := hide hok
  have CF0 := hide (block_alloc (heap_alloc_new w (.cells #[.int .i64 (c : Int), .int .i64 (k : Int), .int .i64 (r : Int)] 23)) (.cells #[.slice none 0 0, .slice none 0 0, .slice none 0 0, .slice none 0 0, .int .i64 0] 31))
  have BK0 := hide (bk_new w.heap.size (w.alloc (.cells #[.int .i64 (c : Int), .int .i64 (k : Int), .int .i64 (r : Int)] 23)) (by simp))
  have BB0 := hide (((Below.refl _ _).alloc (Nat.le_refl _) _).alloc (by simp) _ : Below w.heap.size w ((w.alloc (.cells #[.int .i64 (c : Int), .int .i64 (k : Int), .int .i64 (r : Int)] 23)).alloc (.cells #[.slice none 0 0, .slice none 0 0, .slice none 0 0, .slice none 0 0, .int .i64 0] 31)))
  clear ha hcell hok
  go_enter Tryz.func3, Tryz.ntmps3
  go_wp2_with fail
  go_at_call 5
  refine (sender_yes c k r _ _ h1 h2 h3 h4 h5 h6).mono ?_
  rintro e w1 ⟨wd1, gp1, gs1, ge1, gl1, rfl, a1, a2, a3, a4, a5, W1, S1, b1⟩
  have z0 := (unhide BB0).size
  have HW1 := hide (W1.dn z0)
  have HS1 := hide (S1.dn z0)
  have HB1 := hide (grew_call (unhide BB0) b1)
  have HK1 := hide ((unhide BK0).grew b1)
  have CF1 := block_keep (unhide CF0) b1
  have c0 : w1.cell? ⟨w.heap.size, 0, none⟩ = some (.int .i64 (c : Int)) := block_cell CF1 0
  have c1 : w1.cell? ⟨w.heap.size, 1, none⟩ = some (.int .i64 (k : Int)) := block_cell CF1 1
  have c2 : w1.cell? ⟨w.heap.size, 2, none⟩ = some (.int .i64 (r : Int)) := block_cell CF1 2
  have egB : (w.alloc (.cells #[.int .i64 (c : Int), .int .i64 (k : Int), .int .i64 (r : Int)] 23)).heap.size = w.heap.size + 1 := by simp
  rw [egB] at HK1
  have za := a1
  clear CF1 CF0 BK0 BB0 b1 W1 S1 egB
  generalize w.heap.size + 1 = gB at HW1 HK1 ⊢
  go_wp2_with fail
  go_at_call 6
  refine (other_any c k r _ (by omega) (by omega) (by omega) (by omega) (by omega) (by omega)).mono ?_
  rintro e w2 ⟨rfl, b2⟩
  have HW2 := hide ((unhide HW1).grew b2)
  have HS2 := hide ((unhide HS1).grew b2)
  have HB2 := hide (grew_call (unhide HB1) b2)
  have HK2 := hide ((unhide HK1).grew b2)
  rw [show (9 : Int) - (c : Int) = ((9 - c : Nat) : Int) by omega, show (5 : Int) - (k : Int) = ((5 - k : Nat) : Int) by omega, show (102 : Int) - (r : Int) = ((102 - r : Nat) : Int) by omega]
  clear b2 HW1 HS1 HB1 HK1 c0 c1 c2
  go_wp2_with fail
  go_at_call 5
  refine (sender_yes (9 - c) (5 - k) (102 - r) _ _ (by omega) (by omega) (by omega) (by omega) (by omega) (by omega)).mono ?_
  rintro e w3 ⟨wd2, gp2, gs2, ge2, gl2, rfl, d1, d2, d3, d4, d5, W3, S3, b3⟩
  have z2 := (unhide HB2).size
  have hwd := block_lt (unhide HW2).blk
  have hgs := block_lt (unhide HS2).snd
  have hge := block_lt (unhide HS2).doc.head
  have hgl := block_lt (unhide HS2).doc.rows
  have IN0 : SendsIn w.heap.size w gB 0 wd1 wd2 w3 :=
    ⟨gp1, gs1, ge1, gl1, _, gp2, gs2, ge2, gl2, _, _, _, 0, [], ⟨[], [], _, _, 0, (unhide HW2).grew b3, (unhide HS2).grew b3, ends_fresh h1 h2 h3 h4 h5 h6, Nat.le_refl _, Nat.le_refl _⟩,
      ⟨[], [], _, _, 0, W3.dn z2, S3.dn z2, ends_fresh (by omega) (by omega) (by omega) (by omega) (by omega) (by omega), Nat.le_refl _, Nat.le_refl _⟩, by omega, by omega, by omega, by omega, fun g e => by simp [Value.ownBlock] at e,
      (unhide HK2).grew b3, fun e he => by simp at he, by simp, by omega, by omega, grew_call (unhide HB2) b3⟩
  have HIN0 := hide IN0
  clear IN0 W3 S3 b3 HW2 HS2 HB2 HK2
  go_wp2_with fail
  go_loopw [6, 7, 8, 9] (fun wv okv vv iv wr => ∃ (i d1 d2 : Nat), i ≤ S.length ∧ iv = .int .i64 i ∧ wv = .pointer (some ⟨d1, 0, none⟩) ∧ okv = .bool true ∧ vv = .pointer (some ⟨d2, 0, none⟩) ∧ SendsIn w.heap.size w gB i d1 d2 wr) (fun _ _ _ iv _ => S.length - (intOf iv).toNat)
  case atStart => exact ⟨0, wd1, wd2, by omega, rfl, rfl, rfl, rfl, unhide HIN0⟩
  case round =>
    clear HIN0
    obtain ⟨i, e1, e2, hi, rfl, rfl, rfl, rfl, hin⟩ := hrel
    have HIN := hide hin
    by_cases hlt : i < S.length
    · obtain rfl := unhide HA (by omega)
      obtain ⟨o, ho⟩ : ∃ o, S[i] = o := ⟨_, rfl⟩
      have hbel : Below w.heap.size w wr := by obtain ⟨_, _, _, _, _, _, _, _, _, _, _, _, _, _, _, _, _, _, _, _, _, _, _, _, _, _, bb⟩ := hin; exact bb
      obtain ⟨q0, q1, q2, q3, q4, q5, q6, q7, q8, q9, q10⟩ := (unhide HT).cells hbel hlt ho
      have hook : o.ok := by rw [← ho]; exact unhide HOK i hlt
      have HO := hide hook
      have i0 : (0 : Int) ≤ (i : Int) := by omega
      have i1 : (i : Int) < (S.length : Int) := by omega
      clear hin hbel ho hook
      obtain ⟨K, n, p, s⟩ := o
      by_cases k1 : K = 1
      · subst k1
        go_wp2_with (first
          | (go_at_call 7; refine (sends_step w.heap.size w _ gB i e1 e2 ⟨1, n, p, s⟩ (unhide HIN) (unhide HO) (by omega) (Or.inl rfl)).mono ?_; rintro e w5 ⟨v, rfl, rfl, h5⟩; have HIN2 := hide h5; clear h5)
          | (go_at_call 8; refine (sends_looks w.heap.size w _ gB (i + 1) e1 e2 (unhide HIN2) (by omega)).mono ?_; rintro e w6 ⟨rfl, h6⟩; have HIN3 := hide h6; clear h6))
        go_roundw
        case rel => exact ⟨i + 1, e1, e2, by omega, by go_num, rfl, rfl, rfl, unhide HIN3⟩
        case measure => simp [intOf]; omega
      · by_cases k2 : K = 2
        · subst k2
          clear k1
          go_wp2_with (first
            | (go_at_call 7; refine (sends_step w.heap.size w _ gB i e1 e2 ⟨2, n, p, s⟩ (unhide HIN) (unhide HO) (by omega) (Or.inr (Or.inl rfl))).mono ?_; rintro e w5 ⟨v, rfl, rfl, h5⟩; have HIN2 := hide h5; clear h5)
            | (go_at_call 8; refine (sends_looks w.heap.size w _ gB (i + 1) e1 e2 (unhide HIN2) (by omega)).mono ?_; rintro e w6 ⟨rfl, h6⟩; have HIN3 := hide h6; clear h6))
          go_roundw
          case rel => exact ⟨i + 1, e1, e2, by omega, by go_num, rfl, rfl, rfl, unhide HIN3⟩
          case measure => simp [intOf]; omega
        · by_cases k4 : K = 4
          · subst k4
            clear k1 k2
            go_wp2_with (first
              | (go_at_call 7; refine (sends_step w.heap.size w _ gB i e1 e2 ⟨4, n, p, s⟩ (unhide HIN) (unhide HO) (by omega) (Or.inr (Or.inr rfl))).mono ?_; rintro e w5 ⟨v, rfl, rfl, h5⟩; have HIN2 := hide h5; clear h5)
              | (go_at_call 8; refine (sends_looks w.heap.size w _ gB (i + 1) e1 e2 (unhide HIN2) (by omega)).mono ?_; rintro e w6 ⟨rfl, h6⟩; have HIN3 := hide h6; clear h6))
            go_roundw
            case rel => exact ⟨i + 1, e1, e2, by omega, by go_num, rfl, rfl, rfl, unhide HIN3⟩
            case measure => simp [intOf]; omega
          · by_cases k10 : K = 10
            · subst k10
              clear k1 k2 k4
              go_wp2_with (go_at_call 8; refine (sends_looks w.heap.size w _ gB i e1 e2 (unhide HIN) (by omega)).mono ?_; rintro e w6 ⟨rfl, h6⟩; have HIN3 := hide ((h6.grew (Below.refl _ _) (Nat.le_succ i)).swap); clear h6)
              go_roundw
              case rel => exact ⟨i + 1, e2, e1, by omega, by go_num, rfl, rfl, rfl, unhide HIN3⟩
              case measure => simp [intOf]; omega
            · have n1 : ¬ (K = 1) := k1
              go_wp2_with (go_at_call 8; refine (sends_looks w.heap.size w _ gB i e1 e2 (unhide HIN) (by omega)).mono ?_; rintro e w6 ⟨rfl, h6⟩; have HIN3 := hide (h6.grew (Below.refl _ _) (Nat.le_succ i)); clear h6)
              go_roundw
              case rel => exact ⟨i + 1, e1, e2, by omega, by go_num, rfl, rfl, rfl, unhide HIN3⟩
              case measure => simp [intOf]; omega
    · have e : i = S.length := by omega
      subst e
      clear hin
      go_wp2_with fail
      go_at_call 9
      refine (sends_told w.heap.size w _ gB S.length e1 e2 (unhide HIN) (by omega)).mono ?_
      rintro e w5 ⟨rfl, h5⟩
      have HIN2 := hide h5.swap
      clear h5 HIN
      go_wp2_with fail
      go_at_call 9
      refine (sends_told w.heap.size w _ gB (S.length + 1) e2 e1 (unhide HIN2) (by omega)).mono ?_
      rintro e w6 ⟨rfl, h6⟩
      have HIN3 := hide h6
      clear h6 HIN2
      go_wp2_with fail
      go_at_call 8
      refine (sends_looks w.heap.size w _ gB (S.length + 1 + 1) e2 e1 (unhide HIN3) (by omega)).mono ?_
      rintro e w7 ⟨rfl, h7⟩
      have hbel : Below w.heap.size w w7 := by obtain ⟨_, _, _, _, _, _, _, _, _, _, _, _, _, _, _, _, _, _, _, _, _, _, _, _, _, _, bb⟩ := h7; exact bb
      have HB := hide hbel
      clear h7 hbel HIN3
      go_wp2_with fail
      go_ret
      exact ⟨rfl, unhide HB⟩

set_option maxRecDepth 100000 in
set_option maxHeartbeats 4000000 in
theorem sends_no (w : World) (c k r : Int) (v : Value) (h : confB c k r = false) :
    Calls Tryz.prog 3 #[.agg #[.int .i64 c, .int .i64 k, .int .i64 r], v] w fun e w' => e = .returned (.bool true) ∧ Below w.heap.size w w' := by
  have BB0 := hide (((Below.refl _ _).alloc (Nat.le_refl _) _).alloc (by simp) _ : Below w.heap.size w ((w.alloc (.cells #[.int .i64 c, .int .i64 k, .int .i64 r] 23)).alloc (.cells #[.slice none 0 0, .slice none 0 0, .slice none 0 0, .slice none 0 0, .int .i64 0] 31)))
  have HC := hide h
  clear h
  go_enter Tryz.func3, Tryz.ntmps3
  go_wp2_with fail
  go_at_call 5
  refine (sender_no c k r _ _ (unhide HC)).mono ?_
  rintro e w1 ⟨rfl, b1⟩
  have HB1 := hide (grew_call (unhide BB0) b1)
  clear b1 BB0
  go_wp2_with fail
  go_ret
  exact ⟨rfl, unhide HB1⟩
theorem sends_any (w : World) (c k r : Int) (v : Value) (S : List Oq) (ao : Option Addr) (b off cap : Nat) (hT : OpsAt w v S ao b off cap) (hok : ∀ (i : Nat) (hi : i < S.length), (S[i]).ok) (hm : S.length ≤ 1048576) :
    Calls Tryz.prog 3 #[.agg #[.int .i64 c, .int .i64 k, .int .i64 r], v] w fun e w' => e = .returned (.bool true) ∧ Below w.heap.size w w' := by
  cases h : confB c k r with
  | false => exact sends_no w c k r v h
  | true =>
    have hc : 1 ≤ c ∧ c ≤ 8 ∧ 1 ≤ k ∧ k ≤ 4 ∧ 2 ≤ r ∧ r ≤ 100 := of_decide_eq_true h
    obtain ⟨c', rfl⟩ : ∃ c' : Nat, c = c' := ⟨c.toNat, by omega⟩
    obtain ⟨k', rfl⟩ : ∃ k' : Nat, k = k' := ⟨k.toNat, by omega⟩
    obtain ⟨r', rfl⟩ : ∃ r' : Nat, r = r' := ⟨r.toNat, by omega⟩
    exact sends_yes w c' k' r' v S ao b off cap hT hok hm (by omega) (by omega) (by omega) (by omega) (by omega) (by omega)

end Go.Proofs.YtgpojbgjfibblaaGreat.texts
