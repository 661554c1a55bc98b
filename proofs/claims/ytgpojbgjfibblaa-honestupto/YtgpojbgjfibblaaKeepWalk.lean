/-
  The walks of the line (gistkeep): route, config, comes, packet, send.
  Conditions stand in each theorem.
-/
import Derived.Test.YtgpojbgjfibblaaPart23
import Derived.Test.YtgpojbgjfibblaaPart33
import Derived.Test.YtgpojbgjfibblaaNewSnd
namespace Go.Proofs.Ytgpojbgjfibblaa.texts
open Go.RowKit
set_option linter.unusedVariables false
attribute [local go_sem ↓] Go.wp_at_zero Go.wp_at_succ
attribute [local go_sem] bs_size be_length bs_append List.length_append bs_extract bs_list

theorem src_is {n : Nat} (h : n < 12) : IntKind.u32.wrap ((n : Int) * 16777216) = (srcN n : Int) := by
  rw [IntKind.wrap_u32']
  have e : srcN n = n * 16777216 % 4294967296 := rfl
  rw [e]
  omega
theorem src_is' {n : Nat} (h : n < 12) : (n : Int) * 16777216 % 4294967296 = (srcN n : Int) := by
  have e : srcN n = n * 16777216 % 4294967296 := rfl
  rw [e]
  omega
theorem dst_is {n : Nat} (h : n < 12) : 4294967295 - (n : Int) = (dstN n : Int) := by
  have e : dstN n = 4294967295 - n := rfl
  rw [e]
  omega
theorem port_is {n : Nat} (h : n < 12) : IntKind.u16.wrap ((n : Int) * 6553) = (portN n : Int) := by
  rw [IntKind.wrap_u16]
  have e : portN n = n * 6553 % 65536 := rfl
  rw [e]
  omega
set_option maxRecDepth 100000 in
set_option maxHeartbeats 1000000 in
theorem kroute_any (n : Nat) (w : World) (hn : n < 12) :
    Calls Try.prog 74 #[.int .i64 n] w fun e w' => e = .returned (.agg #[.int .u32 (srcN n : Nat), .int .u32 (dstN n : Nat), .int .u16 (portN n : Nat)]) ∧ Below w.heap.size w w' := by
  have e0 := wrap32 (show n < 4294967296 by omega)
  have e1 := src_is hn
  have e1' := src_is' hn
  have e2 := dst_is hn
  have e3 := port_is hn
  go_enter Try.func74, Try.ntmps74
  go_wp2
  refine bodyPost_ret (v := .agg #[.int .u32 (srcN n : Nat), .int .u32 (dstN n : Nat), .int .u16 (portN n : Nat)]) ?_ rfl ⟨rfl, (Below.refl _ _).alloc (Nat.le_refl _) _⟩
  simp [results, Try.results74, go_sem]

/-- a line lies in a block of its own -/
def LnAt (w : World) (b : Nat) (m : Ln) : Prop := w.heap[b]? = some (.cells m.cells 97 (0, 0))

set_option maxRecDepth 100000 in
set_option maxHeartbeats 2000000 in
theorem comes_any (m : Ln) (b : Nat) (y : Rcv) (l : List UInt8) (p : Pk) (w : World) (hy : y.ok) (h : LnAt w b m) (hr : RcvAt w m.r y) (hne : b ≠ m.r) (hl : l.length ≤ 9223372036854775807) (g1 : takeE y l = 0) (g2 : takeB y l = []) (g3 : takeP y l = p) :
    Calls Try.prog 41 #[.pointer (some ⟨b, 0, none⟩), .string (bs l), .agg p.cells] w fun e w' => e = .returned (.bool true) ∧ RcvAt w' m.r (takeM y l) ∧ Only (· = m.r) w w' := by
  have c4 : (w.alloc (.cells p.cells 51)).cell? ⟨b, 4, none⟩ = some (.pointer (some ⟨m.r, 0, none⟩)) := by
    rw [block_cell (block_alloc h _), Ln.get0 m 4 (by omega)]
    rfl
  have hrw := block_lt hr
  have H := hide (block_alloc hr (.cells p.cells 51) : RcvAt (w.alloc (.cells p.cells 51)) m.r y)
  have hem : (bs []).toList.isEmpty = true := by rw [bs_toList]; rfl
  have X := hide (show ∀ w : World, RcvAt w m.r y → Calls Try.prog 44 #[.pointer (some ⟨m.r, 0, none⟩), .string (bs l)] w fun e w' => e = .returned (.tuple #[.agg p.cells, .string (bs []), .int .i64 0]) ∧ RcvAt w' m.r (takeM y l) ∧ Only (· = m.r) w w' by
    intro w hw; have := gtake_any y m.r l w hy hw hl; rw [g1, g2, g3] at this; exact this)
  have HP := hide (heap_alloc_new w (.cells p.cells 51))
  clear h hr hy g1 g2 g3
  unfold Pk.cells at c4 ⊢
  go_enter Try.func41, Try.ntmps41
  go_wp2_with (go_at_call 44; refine (unhide X _ (unhide H)).mono ?_; unfold Pk.cells; rintro e w1 ⟨rfl, h1, h2⟩; have G := h2.keep (unhide HP) (by omega); obtain ⟨p0, p1, p2, p3, p4, p5, p6, p7⟩ := cells8 G; have hz := block_lt G; have H1 := hide h1; have H2 := hide h2; clear h1 h2 G)
  go_ret
  exact ⟨rfl, block_alloc (unhide H1) _, ((Only.of_below ((Below.refl _ _).alloc (Nat.le_refl _) _)).trans (unhide H2)).alloc _⟩

/-- only two blocks, or new ones, have turned -/
theorem LnAt.cell {w : World} {b : Nat} {m : Ln} (h : LnAt w b m) (j : Nat) : w.cell? ⟨b, j, none⟩ = m.cells[j]? := block_cell h j
theorem frame_first {x : Snd} (hx : x.ok) {p : Pk} (hp : p.ok) : byteN (sendF x p) 0 = 64 * sendK x p + 16 * (metN x p).turn + 2 * chooseN x p.src p.dst p.port ∧ 2 ≤ (sendF x p).length := by
  have hk := kindN_le (metN x p) (nextN x p) x.refresh
  have ht := (met_ok hx hp).turn
  have hc := chooseN_lt hx p.src p.dst p.port
  obtain ⟨f1, f2, f3, f4, f5⟩ := first_byte hk ht hc
  have e : sendF x p = be (64 * sendK x p + 16 * (metN x p).turn + 2 * chooseN x p.src p.dst p.port) 1 ++ (toldN (sendK x p) (nextN x p) p ++ p.body) := by simp [sendF, frameN]
  refine ⟨by rw [e]; exact byteN_be _ f5 _, ?_⟩
  rw [e]
  have hl : 1 ≤ (toldN (sendK x p) (nextN x p) p).length := by
    unfold toldN
    split
    · simp [be_length]
    · split
      · simp [be_length]
      · split <;> simp [be_length]
  simp only [List.length_append, be_length]
  omega
theorem frame_short {x : Snd} (hx : x.ok) {p : Pk} (hb : p.body.length ≤ 100) : (sendF x p).length ≤ 123 := by
  have := toldN_length (sendK x p) (nextN x p) p
  simp only [sendF, frameN, List.length_append, be_length]
  omega

set_option maxRecDepth 100000 in
set_option maxHeartbeats 4000000 in
theorem ksend_any (m : Ln) (b : Nat) (x : Snd) (p : Pk) (w : World) (hm : m.ok) (hx : x.ok) (hp : p.ok) (hb : p.body.length ≤ 100) (h : LnAt w b m) (hs : SndAt w m.s x) (hne : b ≠ m.s)
    (hcnt : ∀ c ∈ x.cs, c.age + 1 < 4611686018427387904) (hch : chooseN x p.src p.dst p.port < m.cids) (hsn : ∀ i, m.since.getD i 0 < 4611686018427387904) :
    Calls Try.prog 40 #[.pointer (some ⟨b, 0, none⟩), .agg p.cells] w fun e w' => e = .returned (.tuple #[.string (bs (sendF x p)), .int .i64 (chooseN x p.src p.dst p.port : Nat), .bool true]) ∧
      LnAt w' b (m.setSince (chooseN x p.src p.dst p.port) (if sendK x p = 3 then 0 else m.since.getD (chooseN x p.src p.dst p.port) 0 + 1)) ∧ SndAt w' m.s (sendM x p) ∧ Only (fun k => k = b ∨ k = m.s) w w' := by
  obtain ⟨hf0, hf2⟩ := frame_first hx hp
  have hfl := frame_short hx hb
  have hk3 : sendK x p ≤ 3 := kindN_le _ _ _
  have ht := (met_ok hx hp).turn
  have hc8 := chooseN_lt hx p.src p.dst p.port
  obtain ⟨C, hC⟩ : ∃ C, C = chooseN x p.src p.dst p.port := ⟨_, rfl⟩
  obtain ⟨K, hK⟩ : ∃ K, K = sendK x p := ⟨_, rfl⟩
  obtain ⟨F, hF⟩ : ∃ F, F = sendF x p := ⟨_, rfl⟩
  obtain ⟨B, hB⟩ : ∃ B, B = byteN F 0 := ⟨_, rfl⟩
  rw [← hF] at hf0 hf2 hfl
  rw [← hB, ← hC, ← hK] at hf0
  rw [← hC] at hch hc8
  rw [← hK] at hk3
  rw [← hF, ← hC, ← hK]
  have h0 : 0 < (bs F).size := by rw [bs_size]; omega
  have hby := byte_at F 0 (by omega) h0
  rw [← hB] at hby
  have q1 : (B : Int) / 2 % 8 = (C : Int) := by omega
  have q2 : (B : Int) / 64 = (K : Int) := by omega
  have hB256 : B < 256 := by omega
  have hmc8 := hm.c8
  have X := hide (show ∀ w : World, SndAt w m.s x → Calls Try.prog 75 #[.pointer (some ⟨m.s, 0, none⟩), .agg p.cells] w fun e w' => e = .returned (.tuple #[.string (bs F), .int .i64 0]) ∧ SndAt w' m.s (sendM x p) ∧ Only (· = m.s) w w' by
    intro w hw; rw [hF]; exact gsend_any x m.s p w hx hw hp hb hcnt)
  have L0 : LnAt (w.alloc (.cells p.cells 51)).drew b m := block_alloc h _
  have S0 : SndAt (w.alloc (.cells p.cells 51)).drew m.s x := block_alloc hs _
  have c3 : (w.alloc (.cells p.cells 51)).drew.cell? ⟨b, 3, none⟩ = some (.pointer (some ⟨m.s, 0, none⟩)) := by rw [L0.cell, Ln.get0 m 3 (by omega)]; rfl
  have HL0 := hide L0
  have HS0 := hide S0
  have HM := hide hm
  have hsC := hsn C
  obtain ⟨N, hN⟩ : ∃ N, N = m.since.getD C 0 := ⟨_, rfl⟩
  rw [← hN] at hsC ⊢
  have HN := hide hN
  clear L0 S0 hf0 hm hx hp hcnt h hs hF hB hC hK ht hN hsn
  unfold Pk.cells at c3 ⊢
  go_enter Try.func40, Try.ntmps40
  go_wp2_with fail
  go_region_with ((go_at_call 75; refine (unhide X _ (unhide HS0)).mono ?_; rintro e w1 ⟨rfl, h1, h2⟩; have L1 : LnAt w1 b m := h2.keep (unhide HL0) hne; have k0 : w1.cell? ⟨b, 0, none⟩ = some (.int .i64 m.cids) := by { rw [L1.cell, Ln.get0 m 0 (by omega)]; rfl }; have HL1 := hide L1; have H1 := hide h1; have H2 := hide h2; clear L1 h1 h2))
  all_goals
    have i0 : (0 : Int) ≤ (C : Int) := by omega
    have i1 : (C : Int) < 8 := by omega
    have g93 : w1.drew.cell? ⟨b, 93 + C, none⟩ = some (.int .i64 N) := by rw [unhide HN]; exact ((unhide HL1).cell (93 + C)).trans (Ln.getSince (unhide HM) C (by omega))
    have f93 : w1.drew.frozen? ⟨b, 93 + C, none⟩ = false := block_free (unhide HL1) (93 + C)
    go_upto_region 7 with fail
    go_region
    all_goals
      have L2 : LnAt (w1.setCell ⟨b, 93 + C, none⟩ (.int .i64 ((N : Int) + 1))).drew b (m.setSince C (N + 1)) := by
        have e := heap_setCell_same w1 b (93 + C) _ _ (.int .i64 ((N : Int) + 1)) (unhide HL1)
        have e2 := Ln.putSince (unhide HM) C (N + 1) (by omega)
        rw [show ((N + 1 : Nat) : Int) = (N : Int) + 1 by omega] at e2
        rw [e2] at e
        exact e
      have S2 : SndAt (w1.setCell ⟨b, 93 + C, none⟩ (.int .i64 ((N : Int) + 1))).drew m.s (sendM x p) := by
        show (w1.setCell ⟨b, 93 + C, none⟩ (.int .i64 ((N : Int) + 1))).heap[m.s]? = _
        rw [Below.heap_setCell _ _ _ _ (by exact fun e => hne e.symm)]
        exact unhide H1
      have O2 : Only (fun k => k = b ∨ k = m.s) w (w1.setCell ⟨b, 93 + C, none⟩ (.int .i64 ((N : Int) + 1))).drew :=
        (Only.setCell (S := fun k => k = b ∨ k = m.s) (p := ⟨b, 93 + C, none⟩) ((Only.of_below ((Below.refl _ _).alloc (Nat.le_refl _) _)).trans ((Only.refl _ _).drew.trans ((unhide H2).mono (fun k hk => Or.inr hk)))) (Or.inl rfl) _).drew
      have f2 := block_free L2 (93 + C)
      have c2 : (w1.setCell ⟨b, 93 + C, none⟩ (.int .i64 ((N : Int) + 1))).drew.cell? ⟨b, 93 + C, none⟩ = some (.int .i64 ((N + 1 : Nat) : Int)) := by
        rw [L2.cell, Ln.getSince (Ln.setSince_ok (unhide HM) _ _) C (by omega)]
        have hl := (unhide HM).since
        simp [Ln.setSince, List.getD_eq_getElem?_getD, hl, hc8]
      have HL2 := hide L2
      have HS2 := hide S2
      have HO2 := hide O2
      clear L2 S2 O2 g93 f93 k0
      generalize (w1.setCell ⟨b, 93 + C, none⟩ (.int .i64 ((N : Int) + 1))).drew = w2 at HL2 HS2 HO2 f2 c2 ⊢
      by_cases h3 : K = 3
      · subst h3
        have q3 : (B : Int) / 64 = 3 := q2
        clear q2
        have L3 : LnAt (w2.setCell ⟨b, 93 + C, none⟩ (.int .i64 0)) b (m.setSince C 0) := by
          have e := heap_setCell_same w2 b (93 + C) _ _ (.int .i64 0) (unhide HL2)
          have e2 := Ln.putSince (Ln.setSince_ok (unhide HM) C (N + 1)) C 0 (by omega)
          have e3 : (m.setSince C (N + 1)).setSince C 0 = m.setSince C 0 := by simp [Ln.setSince]
          rw [e3] at e2
          have e4 : (Value.int .i64 ((0 : Nat) : Int)) = .int .i64 0 := rfl
          rw [e4] at e2
          rw [e2] at e
          exact e
        have HL3 := hide L3
        clear L3
        go_wp2
        exact bodyPost_ret (v := .tuple #[.string (bs F), .int .i64 (C : Nat), .bool true]) (by simp [results, Try.results40, go_sem]) rfl ⟨rfl, by first | exact unhide HL3 | (rw [if_pos rfl]; exact unhide HL3), by rw [SndAt, Below.heap_setCell _ _ _ _ (by exact fun e => hne e.symm)]; exact unhide HS2, Only.setCell (S := fun k => k = b ∨ k = m.s) (p := ⟨b, 93 + C, none⟩) (unhide HO2) (Or.inl rfl) _⟩
      · have h3b : ((K : Int) == 3) = false := by rw [beq_eq_false_iff_ne]; omega
        go_wp2
        exact bodyPost_ret (v := .tuple #[.string (bs F), .int .i64 (C : Nat), .bool true]) (by simp [results, Try.results40, go_sem]) rfl ⟨rfl, by first | exact unhide HL2 | (rw [if_neg h3]; exact unhide HL2), unhide HS2, unhide HO2⟩

end Go.Proofs.Ytgpojbgjfibblaa.texts
