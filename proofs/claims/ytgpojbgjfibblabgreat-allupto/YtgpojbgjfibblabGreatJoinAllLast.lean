/-
  The walk of a script of every kind on two pairs of ends (package gistlaw): plays. The walk of the statement All (package gistlaw).
  Conditions stand in each theorem.
-/
import Derived.Test.YtgpojbgjfibblabGreatJoinAllIn
namespace Go.Proofs.YtgpojbgjfibblabGreat.texts.tx
open Go.RowKit
set_option linter.unusedVariables false
attribute [local go_sem ↓] Go.wp_at_zero Go.wp_at_succ

/-- the next step of the script -/
theorem plays_step (B : Nat) (w wr : World) (gB i wd1 wd2 : Nat) (o : Oq) (h : TakesP B w gB i wd1 wd2 wr) (ho : o.ok) (hi : i ≤ 1048576) (hk : 1 ≤ o.kind ∧ o.kind ≤ 9) :
    Calls Tryz.prog 7 #[.pointer (some ⟨wd1, 0, none⟩), .agg o.cells] wr (Hands fun v w' => v = true ∧ TakesP B w gB (i + 1) wd1 wd2 w') := by
  have hb : Below wr.heap.size wr (wr.alloc (.cells o.cells 45)) := (Below.refl _ _).alloc (Nat.le_refl _) _
  have h0 := h
  have h' := h.grew hb (Nat.le_refl i)
  obtain ⟨x1, x2, vF, vM, vT, vN, next, K, KT, rfl, rfl, P⟩ := h'
  obtain ⟨fs, bk, m, d, k, mr, dr, p⟩ := P.one
  have sent : ∀ w', SentPost B (wr.alloc (.cells o.cells 45)) x1.wd x1.gp x1.gs x1.ge x1.gl gB (.pointer (some ⟨x1.gr, 0, none⟩)) x1.vs bk fs d w' → TakesP B w gB (i + 1) x1.wd x2.wd w' := by
    intro w' hp
    obtain ⟨vs', h1, h2, o'⟩ := p.sent_ hp
    refine ⟨{ x1 with vs := vs' }, x2, vF, vM, vT, vN, next, K, KT, rfl, rfl, P.step h1 o' ?_ ?_⟩
    rotate_left
    · intro q e
      rcases h2 with e2 | ⟨g, e2, hg⟩
      · exact Or.inl (e2 ▸ e)
      · right
        have e' : vs'.ownBlock = some q := e
        rw [e2] at e'
        simp at e'
        omega
    rintro q (e | e | e | e | e | e | e | e)
    · exact Or.inl (Or.inl e)
    · exact Or.inl (Or.inr (Or.inl e))
    · exact Or.inl (Or.inr (Or.inr (Or.inl e)))
    · exact Or.inl (Or.inr (Or.inr (Or.inr (Or.inl e))))
    · exact Or.inl (Or.inr (Or.inr (Or.inr (Or.inr (Or.inl e)))))
    · exact Or.inl (Or.inr (Or.inr (Or.inr (Or.inr (Or.inr (Or.inl e))))))
    · exact Or.inl (Or.inr (Or.inr (Or.inr (Or.inr (Or.inr (Or.inr (Or.inl e)))))))
    · rcases h2 with e2 | ⟨g, e2, hg⟩
      · exact Or.inl (Or.inr (Or.inr (Or.inr (Or.inr (Or.inr (Or.inr (Or.inr (e2 ▸ e))))))))
      · right
        have e' : vs'.ownBlock = some q := e
        rw [e2] at e'
        simp at e'
        omega
  have took : ∀ w', TookPost B (wr.alloc (.cells o.cells 45)) x1.wd x1.gp gB x1.gr x1.gy x1.gf x1.gm x1.vs fs bk w' → TakesP B w gB (i + 1) x1.wd x2.wd w' := by
    intro w' hp
    obtain ⟨h1, o'⟩ := p.took_ hp
    exact ⟨x1, x2, vF, vM, vT, vN, next, K, KT, rfl, rfl, P.step h1 o' (fun q e => Or.inl e) (fun q e => Or.inl e)⟩
  have told : ∀ w', ToldPost B (wr.alloc (.cells o.cells 45)) gB vT vN next K w' → TakesP B w gB (i + 1) x1.wd x2.wd w' := by
    intro w' hp
    obtain ⟨vF', vM', K', P'⟩ := P.told hp
    exact ⟨x1, x2, vF', vM', vT, vN, next - 2, K', KT, rfl, rfl, P'⟩
  have ps := p.sent
  have pf := p.few
  have kl := P.kl
  have nl := P.nl
  have nu := P.nu
  have tl := P.tl
  have cases8 : o.kind = 1 ∨ o.kind = 2 ∨ o.kind = 3 ∨ o.kind = 4 ∨ o.kind = 5 ∨ o.kind = 6 ∨ o.kind = 7 ∨ o.kind = 8 ∨ o.kind = 9 := by omega
  rcases cases8 with hk | hk | hk | hk | hk | hk | hk | hk | hk
  · refine step_send o x1.wd wr _ hk ?_
    by_cases hbo : o.p.body.length ≤ 100
    · refine (wsend_short B x1.wd x1.gp x1.gs x1.ge x1.gl gB _ x1.vs fs bk m d k o.p _ p.wat p.sat p.ends ho.p hbo (by omega) (by omega)).mono ?_
      rintro e w2 ⟨rfl, hp⟩
      exact ⟨true, rfl, rfl, sent w2 hp⟩
    · refine (wsend_long B x1.wd x1.gp x1.gs x1.ge x1.gl gB _ x1.vs fs bk m d k o.p _ p.wat p.sat p.ends (by omega)).mono ?_
      rintro e w2 ⟨rfl, hp⟩
      exact ⟨true, rfl, rfl, sent w2 hp⟩
  · refine step_hear o x1.wd wr _ hk ?_
    refine (whear_any B x1.wd x1.gp x1.gs x1.ge x1.gl gB _ x1.vs fs bk m d k o.s _ p.wat p.sat p.ends ho.s).mono ?_
    rintro e w2 ⟨rfl, hp⟩
    exact ⟨true, rfl, rfl, sent w2 hp⟩
  · have hbk : wr.cell? ⟨x1.wd, 3, none⟩ = some (.string (bs bk)) := by
      obtain ⟨y1, y2, vF2, vM2, vT2, vN2, next2, K2, KT2, e1, e2, P2⟩ := h0
      obtain ⟨fs2, bk2, m2, d2, k2, mr2, dr2, p2⟩ := P2.one
      have c2 : wr.cell? ⟨y1.wd, 3, none⟩ = some (.string (bs bk2)) := block_cell p2.wat.blk 3
      rw [e1] at c2
      have c3 := keep_cell c2 hb
      have c4 : (wr.alloc (.cells o.cells 45)).cell? ⟨x1.wd, 3, none⟩ = some (.string (bs bk)) := block_cell p.wat.blk 3
      rw [c4] at c3
      rw [c2, ← c3]
    refine step_hears o x1.wd wr _ hk bk hbk ?_
    refine (whear_any B x1.wd x1.gp x1.gs x1.ge x1.gl gB _ x1.vs fs bk m d k bk _ p.wat p.sat p.ends (by have := p.back; unfold maxLen; omega)).mono ?_
    rintro e w2 ⟨rfl, hp⟩
    exact ⟨true, rfl, rfl, sent w2 hp⟩
  · refine step_sent o x1.wd wr _ hk ?_
    refine (wtold_snd B x1.wd x1.gp x1.gs x1.ge x1.gl gB _ x1.vs fs bk m d k vF vM _ _ next K _ p.wat p.sat p.ends (by omega) P.book P.sh (by omega) (by omega) (by omega)).mono ?_
    rintro e w2 ⟨rfl, hp⟩
    exact ⟨true, rfl, rfl, told w2 hp⟩
  · refine step_take o x1.wd wr _ hk ?_
    refine (wtake_any B x1.wd x1.gp gB x1.gr x1.gy x1.gf x1.gm x1.vs fs bk mr dr o.s _ p.wat p.rat p.endr (by have := ho.s; unfold maxLen at this; omega)).mono ?_
    rintro e w2 ⟨rfl, hp⟩
    exact ⟨true, rfl, rfl, took w2 hp⟩
  · refine step_pass o x1.wd wr _ hk ?_
    refine (wpassed_any B x1.wd x1.gp gB x1.gr x1.gy x1.gf x1.gm x1.vs fs bk mr dr o _ p.wat p.rat p.endr ho p.short (by omega)).mono ?_
    rintro e w2 ⟨rfl, hp⟩
    exact ⟨true, rfl, rfl, took w2 hp⟩
  · refine step_spoil o x1.wd wr _ hk ?_
    refine (wpassed_any B x1.wd x1.gp gB x1.gr x1.gy x1.gf x1.gm x1.vs fs bk mr dr o _ p.wat p.rat p.endr ho p.short (by omega)).mono ?_
    rintro e w2 ⟨rfl, hp⟩
    exact ⟨true, rfl, rfl, took w2 hp⟩
  · refine step_took o x1.wd wr _ hk ?_
    refine (wtold_rcv B x1.wd x1.gp gB x1.gr x1.gy x1.gf x1.gm x1.vs fs bk mr dr vF vM _ _ next K _ p.wat p.rat p.endr P.book P.sh (by omega) (by omega) (by omega)).mono ?_
    rintro e w2 ⟨rfl, hp⟩
    exact ⟨true, rfl, rfl, told w2 hp⟩
  · refine step_join o x1.wd wr _ hk ?_
    refine (bundle_any _ B x1.wd x1.gp gB _ x1.vs fs bk o.n vT vN next KT _ p.wat P.before ho.n.1 ho.n.2 (by omega) (by omega) (by omega) (by omega)).mono ?_
    rintro e w2 ⟨rfl, hp⟩
    obtain ⟨vT', vN', KT', P'⟩ := P.joined hp
    exact ⟨true, rfl, rfl, x1, x2, vF, vM, vT', vN', next - 1, K, KT', rfl, rfl, P'⟩
/-- what the first pair tells at the end -/
theorem plays_ends (B : Nat) (w wr : World) (gB i wd1 wd2 : Nat) (h : TakesP B w gB i wd1 wd2 wr) (hi : i ≤ 1048590) :
    Calls Tryz.prog 9 #[.pointer (some ⟨wd1, 0, none⟩)] wr fun e w' => e = .returned (.bool true) ∧ TakesP B w gB (i + 1 + 1) wd1 wd2 w' := by
  refine ends_any wd1 wr (fun w1 => TakesP B w gB (i + 1) wd1 wd2 w1) _ ?_ (fun w1 h1 => ?_)
  · obtain ⟨x1, x2, vF, vM, vT, vN, next, K, KT, rfl, rfl, P⟩ := h
    obtain ⟨fs, bk, m, d, k, mr, dr, p⟩ := P.one
    have ps := p.sent
    have kl := P.kl
    have nl := P.nl
    have nu := P.nu
    refine (wtold_snd B x1.wd x1.gp x1.gs x1.ge x1.gl gB _ x1.vs fs bk m d k vF vM _ _ next K _ p.wat p.sat p.ends (by omega) P.book P.sh (by omega) (by omega) (by omega)).mono ?_
    rintro e w2 ⟨rfl, hp⟩
    obtain ⟨vF', vM', K', P'⟩ := P.told hp
    exact ⟨rfl, x1, x2, vF', vM', vT, vN, next - 2, K', KT, rfl, rfl, P'⟩
  · obtain ⟨x1, x2, vF, vM, vT, vN, next, K, KT, rfl, rfl, P⟩ := h1
    obtain ⟨fs, bk, m, d, k, mr, dr, p⟩ := P.one
    have kl := P.kl
    have nl := P.nl
    have nu := P.nu
    refine (wtold_rcv B x1.wd x1.gp gB x1.gr x1.gy x1.gf x1.gm x1.vs fs bk mr dr vF vM _ _ next K _ p.wat p.rat p.endr P.book P.sh (by omega) (by omega) (by omega)).mono ?_
    rintro e w2 ⟨rfl, hp⟩
    obtain ⟨vF', vM', K', P'⟩ := P.told hp
    exact ⟨rfl, x1, x2, vF', vM', vT, vN, next - 2, K', KT, rfl, rfl, P'⟩
theorem plays_looks (B : Nat) (w wr : World) (gB i wd1 wd2 : Nat) (h : TakesP B w gB i wd1 wd2 wr) (hi : i ≤ 1048600) :
    Calls Tryz.prog 8 #[.pointer (some ⟨gB, 0, none⟩)] wr fun e w' => e = .returned (.bool true) ∧ TakesP B w gB i wd1 wd2 w' := by
  have h' := h
  obtain ⟨x1, x2, vF, vM, vT, vN, next, K, KT, rfl, rfl, P⟩ := h
  have kl := P.kl
  have tl := P.tl
  refine (flooks_any B _ gB vF vM _ _ next K KT P.book P.sh (by omega) P.tx.at_ (by omega)).mono ?_
  rintro e w2 ⟨rfl, hb⟩
  exact ⟨rfl, h'.grew hb (Nat.le_refl i)⟩

/-- the kinds in memory -/
def KindsAt (w : World) (kb : Nat) (ks : List Int) : Prop := ∀ (j : Nat) (hj : j < ks.length), w.cell? ⟨kb, j, none⟩ = some (.int .i64 ks[j])
theorem any_succ (ks : List Int) (K : Int) (j : Nat) (hj : j < ks.length) : (ks.take (j + 1)).any (· == K) = ((ks.take j).any (· == K) || (ks[j] == K)) := by
  rw [List.take_succ_eq_append_getElem hj, List.any_append]
  simp

set_option maxRecDepth 100000 in
set_option maxHeartbeats 8000000 in
theorem plays_yes (w : World) (c k r : Nat) (v : Value) (S : List Oq) (ao : Option Addr) (b off cap : Nat) (kb : Nat) (ks : List Int) (hT : OpsAt w v S ao b off cap) (hok : ∀ (i : Nat) (hi : i < S.length), (S[i]).ok) (hm : S.length ≤ 1048576) (hks : KindsAt w kb ks) (hk10 : ks.length ≤ 10) (hin : ∀ K ∈ ks, (1 ≤ K ∧ K ≤ 9) ∨ K = 10) (h1 : 1 ≤ c) (h2 : c ≤ 8) (h3 : 1 ≤ k) (h4 : k ≤ 4) (h5 : 2 ≤ r) (h6 : r ≤ 100) :
    Calls Tryz.prog 4 #[.agg #[.int .i64 c, .int .i64 k, .int .i64 r], v, .slice (some ⟨kb, 0, none⟩) ks.length ks.length] w fun e w' => e = .returned (.bool true) ∧ Below w.heap.size w w' := by
  obtain ⟨rfl, ha, hcell⟩ := hT
  have HT : Hid (OpsAt w (.slice ao S.length cap) S ao b off cap) := ⟨rfl, ha, hcell⟩
  have HA := hide ha
  have HOK := hide hok
  have HKS := hide hks
  have HIN0 := hide hin
  have CF0 := hide (block_alloc (heap_alloc_new w (.cells #[.int .i64 (c : Int), .int .i64 (k : Int), .int .i64 (r : Int)] 23)) (.cells #[.slice none 0 0, .slice none 0 0, .slice none 0 0, .slice none 0 0, .int .i64 0] 33))
  have BK0 := hide (bk_new w.heap.size (w.alloc (.cells #[.int .i64 (c : Int), .int .i64 (k : Int), .int .i64 (r : Int)] 23)) (by simp))
  have BB0 := hide (((Below.refl _ _).alloc (Nat.le_refl _) _).alloc (by simp) _ : Below w.heap.size w ((w.alloc (.cells #[.int .i64 (c : Int), .int .i64 (k : Int), .int .i64 (r : Int)] 23)).alloc (.cells #[.slice none 0 0, .slice none 0 0, .slice none 0 0, .slice none 0 0, .int .i64 0] 33)))
  clear ha hcell hok hks hin
  obtain ⟨nk, hnk⟩ : ∃ nk, nk = ks.length := ⟨_, rfl⟩
  rw [← hnk] at hk10 ⊢
  have Hnk := hide hnk
  clear hnk
  go_enter Tryz.func4, Tryz.ntmps4
  go_wp2_with fail
  go_at_call 5
  refine (begun_yes c k r _ _ h1 h2 h3 h4 h5 h6).mono ?_
  rintro e w1 ⟨wd1, gp1, gs1, ge1, gl1, gr1, gy1, gf1, gm1, rfl, a1, a2, a3, a4, a5, a6, a7, nef1, nlm1, W1, S1, R1, b1⟩
  have z0 := (unhide BB0).size
  have HW1 := hide (W1.dn z0)
  have HS1 := hide (S1.dn z0)
  have HR1 := hide (R1.dn z0)
  have HB1 := hide (grew_call (unhide BB0) b1)
  have HK1 := hide ((unhide BK0).grew b1)
  have CF1 := block_keep (unhide CF0) b1
  have c0 : w1.cell? ⟨w.heap.size, 0, none⟩ = some (.int .i64 (c : Int)) := block_cell CF1 0
  have c1 : w1.cell? ⟨w.heap.size, 1, none⟩ = some (.int .i64 (k : Int)) := block_cell CF1 1
  have c2 : w1.cell? ⟨w.heap.size, 2, none⟩ = some (.int .i64 (r : Int)) := block_cell CF1 2
  have egB : (w.alloc (.cells #[.int .i64 (c : Int), .int .i64 (k : Int), .int .i64 (r : Int)] 23)).heap.size = w.heap.size + 1 := by simp
  rw [egB] at HK1
  clear CF1 CF0 BK0 BB0 b1 W1 S1 R1 egB
  generalize w.heap.size + 1 = gB at HW1 HK1 ⊢
  go_wp2_with fail
  go_at_call 6
  refine (other_any c k r _ (by omega) (by omega) (by omega) (by omega) (by omega) (by omega)).mono ?_
  rintro e w2 ⟨rfl, b2⟩
  have HW2 := hide ((unhide HW1).grew b2)
  have HS2 := hide ((unhide HS1).grew b2)
  have HR2 := hide ((unhide HR1).grew b2)
  have HB2 := hide (grew_call (unhide HB1) b2)
  have HK2 := hide ((unhide HK1).grew b2)
  rw [show (9 : Int) - (c : Int) = ((9 - c : Nat) : Int) by omega, show (5 : Int) - (k : Int) = ((5 - k : Nat) : Int) by omega, show (102 : Int) - (r : Int) = ((102 - r : Nat) : Int) by omega]
  clear b2 HW1 HS1 HR1 HB1 HK1 c0 c1 c2
  go_wp2_with fail
  go_at_call 5
  refine (begun_yes (9 - c) (5 - k) (102 - r) _ _ (by omega) (by omega) (by omega) (by omega) (by omega) (by omega)).mono ?_
  rintro e w3 ⟨wd2, gp2, gs2, ge2, gl2, gr2, gy2, gf2, gm2, rfl, d1, d2, d3, d4, d5, d6, d7, nef2, nlm2, W3, S3, R3, b3⟩
  have z2 := (unhide HB2).size
  have P1 : Half2 w.heap.size w2 gB 0 ⟨wd1, gp1, gs1, ge1, gl1, gr1, gy1, gf1, gm1, .slice none 0 0⟩ := ⟨[], [], _, _, 0, _, _, unhide HW2, unhide HS2, ends_fresh h1 h2 h3 h4 h5 h6, unhide HR2, freshR_rel h1 h2, Nat.le_refl _, Nat.le_refl _, fun f hf => by simp at hf, by simp, nef1, nlm1⟩
  have P2 : Half2 w.heap.size w3 gB 0 ⟨wd2, gp2, gs2, ge2, gl2, gr2, gy2, gf2, gm2, .slice none 0 0⟩ := ⟨[], [], _, _, 0, _, _, W3.dn z2, S3.dn z2, ends_fresh (by omega) (by omega) (by omega) (by omega) (by omega) (by omega), R3.dn z2, freshR_rel (by omega) (by omega), Nat.le_refl _, Nat.le_refl _, fun f hf => by simp at hf, by simp, nef2, nlm2⟩
  have IN0 : TakesP w.heap.size w gB 0 wd1 wd2 w3 := by
    refine ⟨_, _, _, _, _, _, 0, [], [], rfl, rfl, P1.grew b3 (Nat.le_refl _), P2, fun q hq hq2 => ?_, (unhide HK2).grew b3, TxIn.nil _ _ _ _, fun e he => by simp at he, by simp, by simp, by omega, by omega, grew_call (unhide HB2) b3⟩
    have hlt := P1.lt hq
    rcases hq2 with e | e | e | e | e | e | e | e
    · simp only at e; omega
    · simp only at e; omega
    · simp only at e; omega
    · simp only at e; omega
    · simp only at e; omega
    · simp only at e; omega
    · simp only at e; omega
    · simp [Value.ownBlock] at e
  have HIN1 := hide IN0
  clear IN0 W3 S3 R3 b3 HW2 HS2 HR2 HB2 HK2 P1 P2
  go_wp2_with fail
  go_loopw [8, 9, 10, 11] (fun wv okv vv iv wr => ∃ (i d1 d2 : Nat), i ≤ S.length ∧ iv = .int .i64 i ∧ wv = .pointer (some ⟨d1, 0, none⟩) ∧ okv = .bool true ∧ vv = .pointer (some ⟨d2, 0, none⟩) ∧ TakesP w.heap.size w gB i d1 d2 wr) (fun _ _ _ iv _ => S.length - (intOf iv).toNat)
  case atStart => exact ⟨0, wd1, wd2, by omega, rfl, rfl, rfl, rfl, unhide HIN1⟩
  case round =>
    clear HIN1
    obtain ⟨i, e1, e2, hi, rfl, rfl, rfl, rfl, hin⟩ := hrel
    have HIN := hide hin
    by_cases hlt : i < S.length
    · obtain rfl := unhide HA (by omega)
      obtain ⟨o, ho⟩ : ∃ o, S[i] = o := ⟨_, rfl⟩
      have hook : o.ok := by rw [← ho]; exact unhide HOK i hlt
      have HO := hide hook
      have Ho := hide ho
      have i0 : (0 : Int) ≤ (i : Int) := by omega
      have i1 : (i : Int) < (S.length : Int) := by omega
      clear hin hook ho
      go_wp2_with fail
      go_loopw [12, 13] (fun gv jv wr2 => ∃ j : Nat, j ≤ nk ∧ jv = .int .i64 j ∧ gv = .bool ((ks.take j).any (· == o.kind)) ∧ TakesP w.heap.size w gB i e1 e2 wr2) (fun _ jv _ => nk - (intOf jv).toNat)
      case atStart => exact ⟨0, by omega, rfl, rfl, unhide HIN⟩
      case round =>
        rename_i gv jv wr2
        clear HIN
        obtain ⟨j, hj, rfl, rfl, hin2⟩ := hrel
        obtain ⟨q0, q1, q2, q3, q4, q5, q6, q7, q8, q9, q10⟩ := (unhide HT).cells hin2.below hlt (unhide Ho)
        have HIN2 := hide hin2
        by_cases hjn : j < nk
        · have hjk : j < ks.length := by rw [← unhide Hnk]; exact hjn
          have kc := keep_cell (unhide HKS j hjk) hin2.below
          have HAS := hide (any_succ ks o.kind j hjk)
          obtain ⟨Kj, hKj⟩ : ∃ Kj, Kj = ks[j] := ⟨_, rfl⟩
          rw [← hKj] at kc HAS
          have j0 : (0 : Int) ≤ (j : Int) := by omega
          have j1 : (j : Int) < (nk : Int) := by omega
          clear hin2 hKj
          generalize (ks.take j).any (· == o.kind) = G at *
          cases G with
          | true =>
            go_wp2_with fail
            go_quiet (fail)
            all_goals go_wp2
            all_goals go_roundw
            case rel => exact ⟨j + 1, by omega, by go_num, by rw [unhide HAS]; rfl, (unhide HIN2).grew (below_drewN (Below.refl _ _) _) (Nat.le_refl _)⟩
            case measure => simp [intOf]; omega
          | false =>
            go_wp2_with fail
            go_quiet (fail)
            all_goals go_wp2
            all_goals go_roundw
            case rel => exact ⟨j + 1, by omega, by go_num, by rw [unhide HAS]; rfl, (unhide HIN2).grew (below_drewN (Below.refl _ _) _) (Nat.le_refl _)⟩
            case measure => simp [intOf]; omega
        · have ej : j = nk := by omega
          subst ej
          have hall : (ks.take j).any (· == o.kind) = ks.any (· == o.kind) := by rw [unhide Hnk, List.take_length]
          rw [hall]
          clear hin2 hall
          cases hG : ks.any (· == o.kind) with
          | false =>
            clear hG
            go_wp2_with fail
            go_roundw
            case rel => exact ⟨i + 1, e1, e2, by omega, by go_num, rfl, rfl, rfl, (unhide HIN2).grew (Below.refl _ _) (Nat.le_succ i)⟩
            case measure => simp [intOf]; omega
          | true =>
            have hkin : (1 ≤ o.kind ∧ o.kind ≤ 9) ∨ o.kind = 10 := by
              obtain ⟨K, hK, hK2⟩ := List.any_eq_true.1 hG
              rw [beq_iff_eq] at hK2
              rw [← hK2]
              exact unhide HIN0 K hK
            clear hG
            obtain ⟨K, n, p, s⟩ := o
            simp only at hkin
            by_cases k10 : K = 10
            · subst k10
              clear hkin
              go_wp2_with (go_at_call 8; refine (plays_looks w.heap.size w _ gB i e1 e2 (unhide HIN2) (by omega)).mono ?_; rintro e w6 ⟨rfl, h6⟩; have HIN3 := hide ((h6.grew (Below.refl _ _) (Nat.le_succ i)).swap); clear h6)
              go_roundw
              case rel => exact ⟨i + 1, e2, e1, by omega, by go_num, rfl, rfl, rfl, unhide HIN3⟩
              case measure => simp [intOf]; omega
            · have hk8 : 1 ≤ K ∧ K ≤ 9 := by omega
              have HK8 := hide hk8
              have kb10 : (K == 10) = false := beq_eq_false_iff_ne.2 k10
              clear hkin hk8
              go_wp2_with (first
                | (go_at_call 7; refine (plays_step w.heap.size w _ gB i e1 e2 ⟨K, n, p, s⟩ (unhide HIN2) (unhide HO) (by omega) (unhide HK8)).mono ?_; rintro e w5 ⟨v, rfl, rfl, h5⟩; have HIN3 := hide h5; clear h5)
                | (go_at_call 8; refine (plays_looks w.heap.size w _ gB (i + 1) e1 e2 (unhide HIN3) (by omega)).mono ?_; rintro e w6 ⟨rfl, h6⟩; have HIN4 := hide h6; clear h6))
              go_roundw
              case rel => exact ⟨i + 1, e1, e2, by omega, by go_num, rfl, rfl, rfl, unhide HIN4⟩
              case measure => simp [intOf]; omega
    · have e : i = S.length := by omega
      subst e
      clear hin
      go_wp2_with fail
      go_at_call 9
      refine (plays_ends w.heap.size w _ gB S.length e1 e2 (unhide HIN) (by omega)).mono ?_
      rintro e w5 ⟨rfl, h5⟩
      have HIN2 := hide h5.swap
      clear h5 HIN
      go_wp2_with fail
      go_at_call 9
      refine (plays_ends w.heap.size w _ gB (S.length + 1 + 1) e2 e1 (unhide HIN2) (by omega)).mono ?_
      rintro e w6 ⟨rfl, h6⟩
      have HIN3 := hide h6
      clear h6 HIN2
      go_wp2_with fail
      go_at_call 8
      refine (plays_looks w.heap.size w _ gB (S.length + 1 + 1 + 1 + 1) e2 e1 (unhide HIN3) (by omega)).mono ?_
      rintro e w7 ⟨rfl, h7⟩
      have HB := hide h7.below
      clear h7 HIN3
      go_wp2_with fail
      go_ret
      exact ⟨rfl, unhide HB⟩

set_option maxRecDepth 100000 in
set_option maxHeartbeats 4000000 in
theorem plays_no (w : World) (c k r : Int) (v u : Value) (h : confB c k r = false) :
    Calls Tryz.prog 4 #[.agg #[.int .i64 c, .int .i64 k, .int .i64 r], v, u] w fun e w' => e = .returned (.bool true) ∧ Below w.heap.size w w' := by
  have BB0 := hide (((Below.refl _ _).alloc (Nat.le_refl _) _).alloc (by simp) _ : Below w.heap.size w ((w.alloc (.cells #[.int .i64 c, .int .i64 k, .int .i64 r] 23)).alloc (.cells #[.slice none 0 0, .slice none 0 0, .slice none 0 0, .slice none 0 0, .int .i64 0] 33)))
  have HC := hide h
  clear h
  go_enter Tryz.func4, Tryz.ntmps4
  go_wp2_with fail
  go_at_call 5
  refine (begun_no c k r _ _ (unhide HC)).mono ?_
  rintro e w1 ⟨rfl, b1⟩
  have HB1 := hide (grew_call (unhide BB0) b1)
  clear b1 BB0
  go_wp2_with fail
  go_ret
  exact ⟨rfl, unhide HB1⟩
theorem plays_any (w : World) (c k r : Int) (v : Value) (S : List Oq) (ao : Option Addr) (b off cap : Nat) (kb : Nat) (ks : List Int) (hT : OpsAt w v S ao b off cap) (hok : ∀ (i : Nat) (hi : i < S.length), (S[i]).ok) (hm : S.length ≤ 1048576) (hks : KindsAt w kb ks) (hk10 : ks.length ≤ 10) (hin : ∀ K ∈ ks, (1 ≤ K ∧ K ≤ 9) ∨ K = 10) :
    Calls Tryz.prog 4 #[.agg #[.int .i64 c, .int .i64 k, .int .i64 r], v, .slice (some ⟨kb, 0, none⟩) ks.length ks.length] w fun e w' => e = .returned (.bool true) ∧ Below w.heap.size w w' := by
  cases h : confB c k r with
  | false => exact plays_no w c k r v _ h
  | true =>
    have hc : 1 ≤ c ∧ c ≤ 8 ∧ 1 ≤ k ∧ k ≤ 4 ∧ 2 ≤ r ∧ r ≤ 100 := of_decide_eq_true h
    obtain ⟨c', rfl⟩ : ∃ c' : Nat, c = c' := ⟨c.toNat, by omega⟩
    obtain ⟨k', rfl⟩ : ∃ k' : Nat, k = k' := ⟨k.toNat, by omega⟩
    obtain ⟨r', rfl⟩ : ∃ r' : Nat, r = r' := ⟨r.toNat, by omega⟩
    exact plays_yes w c' k' r' v S ao b off cap kb ks hT hok hm hks hk10 hin (by omega) (by omega) (by omega) (by omega) (by omega) (by omega)

end Go.Proofs.YtgpojbgjfibblabGreat.texts.tx

namespace Go.Proofs.YtgpojbgjfibblabGreat.texts.tx
open Go.RowKit
set_option linter.unusedVariables false
attribute [local go_sem ↓] Go.wp_at_zero Go.wp_at_succ

theorem ops_keep {w w1 : World} {v : Value} {S : List Oq} {ao : Option Addr} {b off cap : Nat} (h : OpsAt w v S ao b off cap) (hb : Below w.heap.size w w1) : OpsAt w1 v S ao b off cap :=
  ⟨h.form, h.addr, fun i hi j hj => by
    have hs : j < (S[i]).cells.size := hj
    have e := h.cell i hi j hj
    rw [Array.getElem?_eq_getElem hs] at e ⊢
    exact keep_cell e hb⟩

set_option maxRecDepth 100000 in
set_option maxHeartbeats 4000000 in
theorem all_any (w : World) (c k r : Int) (v : Value) (S : List Oq) (ao : Option Addr) (b off cap : Nat) (hT : OpsAt w v S ao b off cap) (hok : ∀ (i : Nat) (hi : i < S.length), (S[i]).ok) (hm : S.length ≤ 1048576) :
    Calls Tryz.prog 3 #[.agg #[.int .i64 c, .int .i64 k, .int .i64 r], v] w fun e w' => e = .returned (.bool true) ∧ Below w.heap.size w w' := by
  have HT := hide hT
  have HOK := hide hok
  obtain rfl := hT.form
  clear hT hok
  have hb : Below w.heap.size w ((w.alloc (.cells #[.int .i64 c, .int .i64 k, .int .i64 r] 23)).alloc (.cells #[.int .i64 1, .int .i64 2, .int .i64 3, .int .i64 4, .int .i64 5, .int .i64 6, .int .i64 7, .int .i64 8, .int .i64 9, .int .i64 10] 3)) := ((Below.refl _ _).alloc (Nat.le_refl _) _).alloc (by simp) _
  have HB := hide hb
  have KB := heap_alloc_new (w.alloc (.cells #[.int .i64 c, .int .i64 k, .int .i64 r] 23)) (.cells #[.int .i64 1, .int .i64 2, .int .i64 3, .int .i64 4, .int .i64 5, .int .i64 6, .int .i64 7, .int .i64 8, .int .i64 9, .int .i64 10] 3)
  have e1 : (w.alloc (.cells #[.int .i64 c, .int .i64 k, .int .i64 r] 23)).heap.size = w.heap.size + 1 := by simp
  rw [e1] at KB
  have HKS : Hid (KindsAt ((w.alloc (.cells #[.int .i64 c, .int .i64 k, .int .i64 r] 23)).alloc (.cells #[.int .i64 1, .int .i64 2, .int .i64 3, .int .i64 4, .int .i64 5, .int .i64 6, .int .i64 7, .int .i64 8, .int .i64 9, .int .i64 10] 3)) (w.heap.size + 1) [1, 2, 3, 4, 5, 6, 7, 8, 9, 10]) := by
    intro j hj
    rw [block_cell KB]
    match j, hj with
    | 0, _ => rfl
    | 1, _ => rfl
    | 2, _ => rfl
    | 3, _ => rfl
    | 4, _ => rfl
    | 5, _ => rfl
    | 6, _ => rfl
    | 7, _ => rfl
    | 8, _ => rfl
    | 9, _ => rfl
  clear hb KB e1
  go_enter Tryz.func3, Tryz.ntmps3
  go_wp2_with fail
  go_at_call 4
  refine (plays_any _ c k r _ S ao b off cap (w.heap.size + 1) [1, 2, 3, 4, 5, 6, 7, 8, 9, 10] (ops_keep (unhide HT) (unhide HB)) (unhide HOK) hm (unhide HKS) (by decide) (by decide)).mono ?_
  rintro e w1 ⟨rfl, b1⟩
  have HB1 := hide (grew_call (unhide HB) b1)
  clear b1
  go_wp2_with fail
  go_ret
  exact ⟨rfl, unhide HB1⟩

end Go.Proofs.YtgpojbgjfibblabGreat.texts.tx
