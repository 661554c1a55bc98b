/-
  The walk of the statement Back (package gistkeep).
  Conditions stand in each theorem.
-/
import Derived.Test.YtgpojbgjfibblaaGistRd
import Derived.Test.YtgpojbgjfibblaaPackMath
import Derived.Test.YtgpojbgjfibblaaTell
namespace Go.Proofs.Ytgpojbgjfibblaa.texts
open Go.RowKit
set_option linter.unusedVariables false
attribute [local go_sem] bs_size be_length bs_append List.length_append bs_extract bs_list bs_toList

theorem gwrite_good (p : Pk) (w : World) (hp : p.ok) (h : p.body.length ≤ 100) :
    Calls Try.prog 27 #[.agg p.cells] w fun e w' => e = .returned (.tuple #[.string (bs (textL p)), .int .i64 0]) ∧ Below w.heap.size w w' := by
  have h1 := gwrite_any p w hp (by omega)
  unfold writeR writeE at h1
  rw [if_pos h, if_pos h] at h1
  exact h1
theorem gread_good (p : Pk) (w : World) (hp : p.ok) (h : p.body.length ≤ 100) :
    Calls Try.prog 29 #[.string (bs (textL p))] w fun e w' => e = .returned (.tuple #[.agg p.cells, .int .i64 0]) ∧ Below w.heap.size w w' := by
  have h1 := gread_any (textL p) w (by rw [text_length]; omega)
  obtain ⟨e1, e2⟩ := read_text p hp h
  rw [e1, e2] at h1
  exact h1

theorem bytesRow_at (L : List UInt8) (C i : Nat) (h : i < L.length) : (bytesRow (bs L) C)[i]? = some (.int .u8 L[i].toNat) := by
  unfold bytesRow
  rw [Array.getElem?_append_left (by simp [bs]; exact h)]
  simp [bs, h]
theorem bytesRow_size (L : List UInt8) (C : Nat) : L.length ≤ (bytesRow (bs L) C).size := by
  simp [bytesRow, bs]

theorem xor8 (a d : Nat) (ha : a < 256) (hd : d < 256) : bits BinOp.xor IntKind.u8 (a : Int) (d : Int) = ((UInt8.ofNat (a ^^^ d)).toNat : Nat) := by
  rw [u8_xor_nat a d ha hd, UInt8.toNat_ofNat']
  have : a ^^^ d < 256 := Nat.xor_lt_two_pow (n := 8) ha hd
  omega
theorem block_put {w : World} {g : Nat} {z : Array Value} {t : TypeId} {fr : Nat × Nat} (h : w.heap[g]? = some (.cells z t fr)) (i : Nat) (v : Value) : (w.setCell ⟨g, i, none⟩ v).heap[g]? = some (.cells (z.setIfInBounds i v) t fr) := by
  simp only [World.setCell, Array.getElem?_modify]
  rw [if_pos trivial, h]
  rfl
/-- the bytes of a text, one of them turned, as a text again -/
theorem turned_text (w3 : World) (R : Array Value) (L : List UInt8) (C i d : Nat) (x : Int) (hx : x = (d : Nat)) (hi : i < L.length) (h0 : 0 < d) (hd : d < 256) (hR : ∀ j (hj : j < L.length), R[j]? = some (.int .u8 L[j].toNat)) :
    Sem.run Try.prog (convert 61 9 (.slice (some ⟨w3.heap.size, 0, none⟩) L.length C)) ((w3.alloc (.cells R 5 (R.size, R.size + 1))).setCell ⟨w3.heap.size, i, none⟩ (.int .u8 (bits BinOp.xor IntKind.u8 (L[i].toNat : Int) x))).drew =
      .ok (.string (bs (L.set i (UInt8.ofNat (L[i].toNat ^^^ d))))) ((w3.alloc (.cells R 5 (R.size, R.size + 1))).setCell ⟨w3.heap.size, i, none⟩ (.int .u8 (bits BinOp.xor IntKind.u8 (L[i].toNat : Int) x))).drew := by
  subst hx
  have hl : L.length = (L.set i (UInt8.ofNat (L[i].toNat ^^^ d))).length := by simp
  conv => lhs; rw [hl]
  refine run_convert_bytes_back (P := Try.prog) _ 61 9 5 ⟨w3.heap.size, 0, none⟩ C (L.set i (UInt8.ofNat (L[i].toNat ^^^ d))) Try.underlying61 Try.underlying5 Try.underlying9 (fun j hj => ?_)
  have hj' : j < L.length := by simpa using hj
  have hh := heap_alloc_new w3 (.cells R 5 (R.size, R.size + 1))
  rw [xor8 _ _ (UInt8.toNat_lt _) hd]
  have hp := block_put hh i (.int .u8 ((UInt8.ofNat (L[i].toNat ^^^ d)).toNat : Nat))
  have hc := cell_of_row _ w3.heap.size j _ 5 _ hp
  show World.cell? _ ((⟨w3.heap.size, 0, none⟩ : Addr).add j) = _
  rw [show ((⟨w3.heap.size, 0, none⟩ : Addr).add j) = ⟨w3.heap.size, j, none⟩ by simp [Addr.add]; omega]
  rw [World.cell?_drew, hc, Array.getElem?_setIfInBounds]
  by_cases e : i = j
  · subst e
    have hs : i < R.size := (Array.getElem?_eq_some_iff.1 (hR i hi)).1
    simp [hs]
  · rw [if_neg e, hR j hj', List.getElem_set_ne e]
theorem turned_read (p : Pk) (hp : p.ok) (h : p.body.length ≤ 100) (L : List UInt8) (hL : L = textL p) (i d : Nat) (hi : i < L.length) (h0 : 0 < d) (hd : d < 256) :
    readE (L.set i (UInt8.ofNat (L[i].toNat ^^^ d))) = if i = 19 then 4 else 5 := by
  subst hL
  refine read_turned p hp h i _ hi ?_
  intro e
  have e2 := congrArg UInt8.toNat e
  rw [UInt8.toNat_ofNat'] at e2
  have b := (textL p)[i].toNat_lt
  have hx : (textL p)[i].toNat ^^^ d < 256 := Nat.xor_lt_two_pow (n := 8) b hd
  rw [Nat.mod_eq_of_lt hx] at e2
  have : d = 0 := by
    have h3 : (textL p)[i].toNat ^^^ ((textL p)[i].toNat ^^^ d) = (textL p)[i].toNat ^^^ (textL p)[i].toNat := by rw [e2]
    rw [← Nat.xor_assoc, Nat.xor_self, Nat.zero_xor] at h3
    exact h3
  omega

set_option maxRecDepth 100000 in
set_option maxHeartbeats 1000000 in
theorem back_short (p : Pk) (at' : Int) (by' : Nat) (w : World) (hp : p.ok) (h : p.body.length ≤ 100) (ha : -9223372036854775808 ≤ at') (ha' : at' ≤ 9223372036854775807) (hb : by' < 256) :
    Calls Try.prog 7 #[.agg p.cells, .int .i64 at', .int .u8 by'] w fun e w' => e = .returned (.bool true) ∧ Below w.heap.size w w' := by
  have HP := hide hp
  have hlen := text_length p
  have Hlen := hide hlen
  obtain ⟨L, hL⟩ : ∃ L, L = textL p := ⟨_, rfl⟩
  have HW := hide (fun w => gwrite_good p w hp h)
  have HR := hide (fun w => gread_good p w hp h)
  rw [← hL] at HW HR hlen
  have hneq : ((L.length : Int) != 22 + (p.body.length : Int)) = false := by simp; omega
  have HL := hide hL
  have hL22 : 22 ≤ L.length := by omega
  have hL122 : L.length ≤ 122 := by omega
  clear hL hlen
  unfold Pk.cells
  go_enter Try.func7, Try.ntmps7
  go_wp2_with fail
  refine (unhide HW _).mono ?_
  rintro e w1 ⟨rfl, hb1⟩
  obtain ⟨hc1, hf1⟩ := bcell hb1
  have hz1 : w.heap.size < w1.heap.size := by have := hb1.size; simp at this; omega
  go_wp2_with fail
  refine (unhide HR _).mono ?_
  rintro e w2 ⟨rfl, hb2⟩
  unfold Pk.cells
  obtain ⟨hc2, hf2⟩ := bcell hb2
  have hz2 : w.heap.size < w2.heap.size := by have := hb2.size; omega
  go_wp2_with fail
  refine (bits.pick_any _ _ _ ha ha' (by omega) (by omega)).mono ?_
  rintro e w3 ⟨rfl, hw3⟩
  have hB3 : Below w.heap.size w w3 := by rw [hw3]; exact grew_alloc (grew_call (grew_call (grew_alloc (Below.refl _ _) _) hb1) hb2) _
  obtain ⟨hp0, hp1⟩ := bits.pk_bd at' L.length (by omega)
  obtain ⟨i, hi⟩ := Int.eq_ofNat_of_zero_le hp0
  rw [hi] at hp1 ⊢
  clear hi hp0 hw3 hc1 hf1 hc2 hf2 hb1 hb2 hz1 hz2
  have hi' : i < L.length := by omega
  have hcv := run_bytes_of_string (P := Try.prog) w3 9 61 5 (bs L) Try.underlying9 Try.underlying61 Try.underlying5
  have hRR : ∀ j (hj : j < L.length), (bytesRow (bs L) (grownCap w3 (bs L).size 0 5))[j]? = some (.int .u8 L[j].toNat) := fun j hj => bytesRow_at L _ j hj
  have hRs : L.length ≤ (bytesRow (bs L) (grownCap w3 (bs L).size 0 5)).size := bytesRow_size L _
  generalize bytesRow (bs L) (grownCap w3 (bs L).size 0 5) = R at hcv hRR hRs
  generalize grownCap w3 (bs L).size 0 5 = C at hcv
  rw [bs_size] at hcv
  have hld : (w3.alloc (.cells R 5 (R.size, R.size + 1))).cell? ⟨w3.heap.size, i, none⟩ = some (.int .u8 L[i].toNat) := by
    rw [cell_of_row _ w3.heap.size i R 5 (R.size, R.size + 1) (heap_alloc_new w3 _), hRR i hi']
  have hfr : (w3.alloc (.cells R 5 (R.size, R.size + 1))).frozen? ⟨w3.heap.size, i, none⟩ = false := by
    have hh := heap_alloc_new w3 (.cells R 5 (R.size, R.size + 1))
    unfold World.frozen?
    rw [show (⟨w3.heap.size, i, none⟩ : Addr).block = w3.heap.size from rfl, hh]
    simp; omega
  have hcv2 := turned_text w3 R L C i (1 + by' % 255) (1 + (by' : Int) % 255) (by omega) hi' (by omega) (by omega) hRR
  have hread := hide (turned_read p hp h L (unhide HL) i (1 + by' % 255) hi' (by omega) (by omega))
  have hgl := hide (fun w => gread_any (L.set i (UInt8.ofNat (L[i].toNat ^^^ (1 + by' % 255)))) w (by simp; omega))
  generalize UInt8.ofNat (L[i].toNat ^^^ (1 + by' % 255)) = v at hcv2 hread hgl
  have hsl : (L.set i v).length = L.length := by simp
  clear hRR hRs
  have HB3 := hide hB3
  clear hB3
  by_cases h19 : i = 19
  · have h19b : ((i : Int) == 19) = true := by simp; omega
    rw [if_pos h19] at hread
    have H19 := hide h19
    clear h19
    go_wp2_with fail
    refine (unhide hgl _).mono ?_
    rintro e w4 ⟨rfl, hb4⟩
    rw [unhide hread]
    unfold Pk.cells
    go_wp2
    go_ret
    exact ⟨rfl, grew_alloc (grew_call (((unhide HB3).alloc (unhide HB3).size _).setCell (unhide HB3).size _).drew hb4) _⟩
  · have h19b : ((i : Int) == 19) = false := by simp; omega
    rw [if_neg h19] at hread
    have H19 := hide h19
    clear h19
    go_wp2_with fail
    refine (unhide hgl _).mono ?_
    rintro e w4 ⟨rfl, hb4⟩
    rw [unhide hread]
    unfold Pk.cells
    go_wp2
    go_ret
    exact ⟨rfl, grew_alloc (grew_call (((unhide HB3).alloc (unhide HB3).size _).setCell (unhide HB3).size _).drew hb4) _⟩

set_option maxRecDepth 100000 in
set_option maxHeartbeats 1000000 in
theorem back_long (p q : Pk) (b : List UInt8) (hq : q = { p with body := b }) (hcut : List.take 100 p.body = b) (hlong : 100 < p.body.length) (hmax : p.body.length ≤ 9223372036854775807) (at' : Int) (by' : Nat) (w : World) (hp : q.ok) (h : q.body.length ≤ 100) (ha : -9223372036854775808 ≤ at') (ha' : at' ≤ 9223372036854775807) (hb : by' < 256) :
    Calls Try.prog 7 #[.agg p.cells, .int .i64 at', .int .u8 by'] w fun e w' => e = .returned (.bool true) ∧ Below w.heap.size w w' := by
  have HP := hide hp
  have hlen := text_length q
  have Hlen := hide hlen
  obtain ⟨L, hL⟩ : ∃ L, L = textL q := ⟨_, rfl⟩
  have HW := hide (fun w => gwrite_good q w hp h)
  have HR := hide (fun w => gread_good q w hp h)
  rw [← hL] at HW HR hlen
  have hneq : ((L.length : Int) != 22 + (q.body.length : Int)) = false := by simp; omega
  have HL := hide hL
  have hL22 : 22 ≤ L.length := by omega
  have hL122 : L.length ≤ 122 := by omega
  clear hL hlen
  subst hq
  have hb100 : b.length = 100 := by rw [← hcut]; simp; omega
  have h100 : (100 : Int) ≤ (p.body.length : Int) := by omega
  unfold Pk.cells
  go_enter Try.func7, Try.ntmps7
  go_wp2_with fail
  refine (unhide HW _).mono ?_
  rintro e w1 ⟨rfl, hb1⟩
  obtain ⟨hc1, hf1⟩ := bcell hb1
  have hz1 : w.heap.size < w1.heap.size := by have := hb1.size; simp at this; omega
  go_wp2_with fail
  refine (unhide HR _).mono ?_
  rintro e w2 ⟨rfl, hb2⟩
  unfold Pk.cells
  obtain ⟨hc2, hf2⟩ := bcell hb2
  have hz2 : w.heap.size < w2.heap.size := by have := hb2.size; omega
  go_wp2_with fail
  refine (bits.pick_any _ _ _ ha ha' (by omega) (by omega)).mono ?_
  rintro e w3 ⟨rfl, hw3⟩
  have hB3 : Below w.heap.size w w3 := by rw [hw3]; exact grew_alloc (grew_call (grew_call (grew_alloc (Below.refl _ _) _) hb1) hb2) _
  obtain ⟨hp0, hp1⟩ := bits.pk_bd at' L.length (by omega)
  obtain ⟨i, hi⟩ := Int.eq_ofNat_of_zero_le hp0
  rw [hi] at hp1 ⊢
  clear hi hp0 hw3 hc1 hf1 hc2 hf2 hb1 hb2 hz1 hz2
  have hi' : i < L.length := by omega
  have hcv := run_bytes_of_string (P := Try.prog) w3 9 61 5 (bs L) Try.underlying9 Try.underlying61 Try.underlying5
  have hRR : ∀ j (hj : j < L.length), (bytesRow (bs L) (grownCap w3 (bs L).size 0 5))[j]? = some (.int .u8 L[j].toNat) := fun j hj => bytesRow_at L _ j hj
  have hRs : L.length ≤ (bytesRow (bs L) (grownCap w3 (bs L).size 0 5)).size := bytesRow_size L _
  generalize bytesRow (bs L) (grownCap w3 (bs L).size 0 5) = R at hcv hRR hRs
  generalize grownCap w3 (bs L).size 0 5 = C at hcv
  rw [bs_size] at hcv
  have hld : (w3.alloc (.cells R 5 (R.size, R.size + 1))).cell? ⟨w3.heap.size, i, none⟩ = some (.int .u8 L[i].toNat) := by
    rw [cell_of_row _ w3.heap.size i R 5 (R.size, R.size + 1) (heap_alloc_new w3 _), hRR i hi']
  have hfr : (w3.alloc (.cells R 5 (R.size, R.size + 1))).frozen? ⟨w3.heap.size, i, none⟩ = false := by
    have hh := heap_alloc_new w3 (.cells R 5 (R.size, R.size + 1))
    unfold World.frozen?
    rw [show (⟨w3.heap.size, i, none⟩ : Addr).block = w3.heap.size from rfl, hh]
    simp; omega
  have hcv2 := turned_text w3 R L C i (1 + by' % 255) (1 + (by' : Int) % 255) (by omega) hi' (by omega) (by omega) hRR
  have hread := hide (turned_read _ hp h L (unhide HL) i (1 + by' % 255) hi' (by omega) (by omega))
  have hgl := hide (fun w => gread_any (L.set i (UInt8.ofNat (L[i].toNat ^^^ (1 + by' % 255)))) w (by simp; omega))
  generalize UInt8.ofNat (L[i].toNat ^^^ (1 + by' % 255)) = v at hcv2 hread hgl
  have hsl : (L.set i v).length = L.length := by simp
  clear hRR hRs
  have HB3 := hide hB3
  clear hB3
  by_cases h19 : i = 19
  · have h19b : ((i : Int) == 19) = true := by simp; omega
    rw [if_pos h19] at hread
    have H19 := hide h19
    clear h19
    go_wp2_with fail
    refine (unhide hgl _).mono ?_
    rintro e w4 ⟨rfl, hb4⟩
    rw [unhide hread]
    unfold Pk.cells
    go_wp2
    go_ret
    exact ⟨rfl, grew_alloc (grew_call (((unhide HB3).alloc (unhide HB3).size _).setCell (unhide HB3).size _).drew hb4) _⟩
  · have h19b : ((i : Int) == 19) = false := by simp; omega
    rw [if_neg h19] at hread
    have H19 := hide h19
    clear h19
    go_wp2_with fail
    refine (unhide hgl _).mono ?_
    rintro e w4 ⟨rfl, hb4⟩
    rw [unhide hread]
    unfold Pk.cells
    go_wp2
    go_ret
    exact ⟨rfl, grew_alloc (grew_call (((unhide HB3).alloc (unhide HB3).size _).setCell (unhide HB3).size _).drew hb4) _⟩

theorem back_any (p : Pk) (at' : Int) (by' : Nat) (w : World) (hp : p.ok) (h : p.body.length ≤ 9223372036854775807) (ha : -9223372036854775808 ≤ at') (ha' : at' ≤ 9223372036854775807) (hb : by' < 256) :
    Calls Try.prog 7 #[.agg p.cells, .int .i64 at', .int .u8 by'] w fun e w' => e = .returned (.bool true) ∧ Below w.heap.size w w' := by
  by_cases hs : p.body.length ≤ 100
  · exact back_short p at' by' w hp hs ha ha' hb
  · obtain ⟨h1, h2, h3, h4, h5, h6, h7⟩ := hp
    exact back_long p { p with body := p.body.take 100 } _ rfl rfl (by omega) h at' by' w ⟨h1, h2, h3, h4, h5, h6, h7⟩ (by simp; omega) ha ha' hb

end Go.Proofs.Ytgpojbgjfibblaa.texts
