/-
  Lists of flows (package gistlaw): the walks of sameFlows and looks.
  Conditions stand in each theorem.
-/
import Derived.Test.YtgpojbgjfibblaaGreatBookG
import Derived.Test.YtgpojbgjfibblaaGreatBookLooks
namespace Go.Proofs.YtgpojbgjfibblaaGreat.texts
open Go.RowKit
set_option linter.unusedVariables false
attribute [local go_sem] bs_size bs_append List.length_append bs_list bs_toList bs_extract

/-- rows of flows -/
def flRow (a b c d e f g : Int) : List Value := [.int .u8 a, .int .u8 b, .int .u32 c, .int .u32 d, .int .u16 e, .int .u16 f, .int .i64 g]
def FlRows (n : Nat) (xs : List Value) : Prop := ∀ k, k < n → ∃ a b c d e f g, ∀ j, j < 7 → xs[k * 7 + j]? = (flRow a b c d e f g)[j]?
theorem FlRows.snoc {n : Nat} {xs : List Value} (h : FlRows n xs) (hl : xs.length = n * 7) (a b c d e f g : Int) : FlRows (n + 1) (xs ++ flRow a b c d e f g) := by
  intro k hk
  by_cases e1 : k < n
  · obtain ⟨a, b, c, d, e, f, g, hh⟩ := h k e1
    exact ⟨a, b, c, d, e, f, g, fun j hj => by rw [List.getElem?_append_left (by omega)]; exact hh j hj⟩
  · have e2 : k = n := by omega
    subst e2
    exact ⟨a, b, c, d, e, f, g, fun j hj => by rw [List.getElem?_append_right (by omega), hl, show k * 7 + j - k * 7 = j by omega]⟩
theorem flows_rows (m : Snd) (j : Nat) : FlRows (countK m j) (flowsK m j) ∧ (flowsK m j).length = countK m j * 7 := by
  induction j with
  | zero => exact ⟨fun k hk => by simp [countK] at hk, rfl⟩
  | succ j ih =>
    unfold flowsK countK
    by_cases h : 0 < (m.at_ j).kept
    · rw [if_pos h, if_pos h]
      exact ⟨ih.1.snoc ih.2 _ _ _ _ _ _ _, by rw [List.length_append, ih.2, show (flowV j (m.at_ j)).toList.length = 7 from rfl]; omega⟩
    · rw [if_neg h, if_neg h, List.append_nil]
      exact ih

set_option maxRecDepth 100000 in
set_option maxHeartbeats 4000000 in
theorem sameFlows_any (w : World) (va vb : Value) (n b1 b2 : Nat) (xs : List Value) (h1 : w.ownsRow b1 67 7 va n xs) (h2 : w.ownsRow b2 67 7 vb n xs) (hr : FlRows n xs) (hn : n ≤ 1000) :
    Calls Tryz.prog 22 #[va, vb] w fun e w' => e = .returned (.bool true) ∧ Below w.heap.size w w' := by
  obtain ⟨aa, ca, rfl⟩ := own_sl h1
  obtain ⟨ab, cb, rfl⟩ := own_sl h2
  have H1 := hide h1
  have H2 := hide h2
  have HR := hide hr
  clear h1 h2 hr
  go_enter Tryz.func22, Tryz.ntmps22
  go_wp2_with fail
  go_loopw [5] (fun i wr => ∃ k : Nat, k ≤ n ∧ i = .int .i64 k ∧ Below w.heap.size w wr) (fun i _ => n - (intOf i).toNat)
  case atStart => exact ⟨0, by omega, rfl, Below.refl _ _⟩
  case round =>
    obtain ⟨k, hk, rfl, hb⟩ := hrel
    by_cases hlt : k < n
    · obtain ⟨g, rfl⟩ : ∃ g, aa = some ⟨g, 0, none⟩ := by
        rcases (unhide H1).2 with ⟨h3, h4⟩ | ⟨g, cap', cur, h3, _⟩
        · omega
        · simp at h3; exact ⟨g, h3.1⟩
      obtain ⟨q, rfl⟩ : ∃ q, ab = some ⟨q, 0, none⟩ := by
        rcases (unhide H2).2 with ⟨h3, h4⟩ | ⟨g, cap', cur, h3, _⟩
        · omega
        · simp at h3; exact ⟨g, h3.1⟩
      obtain ⟨a, b, c, d, e, f, z, hrow⟩ := unhide HR k hlt
      have ca' : ∀ j, j < 7 → ∀ u, (flRow a b c d e f z)[j]? = some u → wr.cell? ⟨g, k * 7 + j, none⟩ = some u := fun j hj u hu => keep_cell (by rw [(unhide H1).cellAt (k * 7 + j) (by omega), hrow j hj, hu]) hb
      have cb' : ∀ j, j < 7 → ∀ u, (flRow a b c d e f z)[j]? = some u → wr.cell? ⟨q, k * 7 + j, none⟩ = some u := fun j hj u hu => keep_cell (by rw [(unhide H2).cellAt (k * 7 + j) (by omega), hrow j hj, hu]) hb
      have a0 := ca' 0 (by omega) _ rfl
      have a1 := ca' 1 (by omega) _ rfl
      have a2 := ca' 2 (by omega) _ rfl
      have a3 := ca' 3 (by omega) _ rfl
      have a4 := ca' 4 (by omega) _ rfl
      have a5 := ca' 5 (by omega) _ rfl
      have a6 := ca' 6 (by omega) _ rfl
      have e0 := cb' 0 (by omega) _ rfl
      have e1 := cb' 1 (by omega) _ rfl
      have e2 := cb' 2 (by omega) _ rfl
      have e3 := cb' 3 (by omega) _ rfl
      have e4 := cb' 4 (by omega) _ rfl
      have e5 := cb' 5 (by omega) _ rfl
      have e6 := cb' 6 (by omega) _ rfl
      rw [Nat.add_zero] at a0 e0
      have i0 : (0 : Int) ≤ (k : Int) := by omega
      have i1 : (k : Int) < (n : Int) := by omega
      have HB := hide hb
      clear hb ca' cb' hrow
      go_wp2_with fail
      go_quiet (fail)
      all_goals go_wp2
      all_goals go_roundw
      case rel => exact ⟨k + 1, by omega, by go_num, below_drewN (unhide HB) _⟩
      case measure => simp [intOf]; omega
    · have e : k = n := by omega
      subst e
      have HB := hide hb
      clear hb
      go_wp2_with fail
      go_ret
      exact ⟨rfl, unhide HB⟩

/-- what the book holds at a place, of its flows -/
theorem bk_at {B : Nat} {w : World} {gB : Nat} {vF vM vT vN : Value} {next : Int} {K : List (Value × Int)} (h : BkAt B w gB vF vM vT vN next K) (hS : FShorts K) {k : Nat} (hk : k < K.length) :
    ∃ gF cF gM cM ao n cap g m, vF = .slice (some ⟨gF, 0, none⟩) K.length cF ∧ vM = .slice (some ⟨gM, 0, none⟩) K.length cM ∧ n ≤ 1000000 ∧ w.cell? ⟨gF, k, none⟩ = some (.slice ao n cap) ∧ w.cell? ⟨gM, k, none⟩ = some (.int .i64 m)
      ∧ (0 < n → ao = some ⟨g, 0, none⟩) ∧ ∀ i, i < n → ∀ j u, (markRow m)[j]? = some u → w.cell? ⟨g, i * 7 + j, none⟩ = some u := by
  have hm : K[k] ∈ K := List.getElem_mem _
  obtain ⟨ao, n, cap, he, hn⟩ := hS _ hm
  have hkp := h.kept _ hm
  rcases h.oF.2 with ⟨_, h0⟩ | ⟨gF, cF, curT, rfl, _⟩
  · omega
  rcases h.oM.2 with ⟨_, h0⟩ | ⟨gM, cM, curN, rfl, _⟩
  · omega
  have ct : w.cell? ⟨gF, k, none⟩ = some (.slice ao n cap) := by
    rw [h.oF.cellAt k (by omega), List.getElem?_map, List.getElem?_eq_getElem hk]; simp [he]
  have cn : w.cell? ⟨gM, k, none⟩ = some (.int .i64 K[k].2) := by
    rw [h.oM.cellAt k (by omega), List.getElem?_map, List.getElem?_eq_getElem hk]; simp
  rcases hkp with e | ⟨g, n', cap', cur, e, hg, hc⟩
  · rw [he] at e
    simp at e
    exact ⟨gF, cF, gM, cM, ao, n, cap, 0, _, rfl, rfl, hn, ct, cn, fun h => by omega, fun i hi => by omega⟩
  · rw [he] at e
    simp at e
    obtain ⟨rfl, rfl, rfl⟩ := e
    refine ⟨gF, cF, gM, cM, _, n, cap, g, _, rfl, rfl, hn, ct, cn, fun _ => rfl, fun i hi j u hu => ?_⟩
    have hj : j < 7 := (List.getElem?_eq_some_iff.1 hu).1
    have := marks_get n K[k].2 i j hi hj
    rw [hu, ← hc, List.getElem?_take, if_pos (by omega), Array.getElem?_toList] at this
    rw [block_cell hg]
    exact this

/-- the book's lists of texts -/
structure TxAt (B : Nat) (w : World) (vT vN : Value) (K : List (Value × List UInt8)) : Prop where
  oT : w.ownsRow B 29 1 vT K.length (K.map (·.1))
  oN : w.ownsRow B 9 1 vN K.length (K.map fun e => .string (bs e.2))
  kept : ∀ e ∈ K, KeptOk w e.1 e.2
  short : Shorts K
theorem TxAt.nil (B : Nat) (w : World) : TxAt B w (.slice none 0 0) (.slice none 0 0) [] := ⟨World.ownsRow_nil _ _ _ _, World.ownsRow_nil _ _ _ _, fun e he => by simp at he, fun e he => by simp at he⟩
theorem tx_at {B : Nat} {w : World} {vT vN : Value} {K : List (Value × List UInt8)} (h : TxAt B w vT vN K) {k : Nat} (hk : k < K.length) :
    ∃ gT cT gN cN ao n cap g x, vT = .slice (some ⟨gT, 0, none⟩) K.length cT ∧ vN = .slice (some ⟨gN, 0, none⟩) K.length cN ∧ n ≤ 1000000 ∧ w.cell? ⟨gT, k, none⟩ = some (.slice ao n cap) ∧ w.cell? ⟨gN, k, none⟩ = some (.string (bs x))
      ∧ (0 < n → ao = some ⟨g, 0, none⟩) ∧ ∀ i, i < n → w.cell? ⟨g, i, none⟩ = some (.string (bs x)) := by
  have hm : K[k] ∈ K := List.getElem_mem _
  obtain ⟨ao, n, cap, he, hn⟩ := h.short _ hm
  have hkp := h.kept _ hm
  rcases h.oT.2 with ⟨_, h0⟩ | ⟨gT, cT, curT, rfl, _⟩
  · omega
  rcases h.oN.2 with ⟨_, h0⟩ | ⟨gN, cN, curN, rfl, _⟩
  · omega
  have ct : w.cell? ⟨gT, k, none⟩ = some (.slice ao n cap) := by
    rw [h.oT.cellAt k (by omega), List.getElem?_map, List.getElem?_eq_getElem hk]; simp [he]
  have cn : w.cell? ⟨gN, k, none⟩ = some (.string (bs K[k].2)) := by
    rw [h.oN.cellAt k (by omega), List.getElem?_map, List.getElem?_eq_getElem hk]; simp
  rcases hkp with e | ⟨g, n', cap', e, hg, hc⟩
  · rw [he] at e
    simp at e
    exact ⟨gT, cT, gN, cN, ao, n, cap, 0, _, rfl, rfl, hn, ct, cn, fun h => by omega, fun i hi => by omega⟩
  · rw [he] at e
    simp at e
    obtain ⟨rfl, rfl, rfl⟩ := e
    exact ⟨gT, cT, gN, cN, _, n, cap, g, _, rfl, rfl, hn, ct, cn, fun _ => rfl, hc⟩

set_option maxRecDepth 100000 in
set_option maxHeartbeats 4000000 in
theorem flooks_any (B : Nat) (w : World) (gB : Nat) (vF vM vT vN : Value) (next : Int) (K : List (Value × Int)) (KT : List (Value × List UInt8)) (hK : BkAt B w gB vF vM vT vN next K) (hS : FShorts K) (hlen : K.length ≤ 1073741824) (hT : TxAt B w vT vN KT) (hlT : KT.length ≤ 1073741824) :
    Calls Tryz.prog 8 #[.pointer (some ⟨gB, 0, none⟩)] w fun e w' => e = .returned (.bool true) ∧ Below w.heap.size w w' := by
  have c0 : w.cell? ⟨gB, 0, none⟩ = some vF := block_cell hK.blk 0
  have c1 : w.cell? ⟨gB, 1, none⟩ = some vT := block_cell hK.blk 1
  have c2 : w.cell? ⟨gB, 2, none⟩ = some vM := block_cell hK.blk 2
  have c3 : w.cell? ⟨gB, 3, none⟩ = some vN := block_cell hK.blk 3
  obtain ⟨aF, cF, rfl⟩ := own_sl hK.oF
  obtain ⟨aM, cM, rfl⟩ := own_sl hK.oM
  obtain ⟨aT, cT, rfl⟩ := own_sl hT.oT
  obtain ⟨aN, cN, rfl⟩ := own_sl hT.oN
  have HK := hide hK
  have HS := hide hS
  have HT := hide hT
  have H0 := hide c0
  have H1 := hide c1
  have H2 := hide c2
  have H3 := hide c3
  clear hK hS hT c0 c1 c2 c3
  go_enter Tryz.func8, Tryz.ntmps8
  go_wp2_with fail
  go_loopw [3] (fun i wr => ∃ k : Nat, k ≤ K.length ∧ i = .int .i64 k ∧ Below w.heap.size w wr) (fun i _ => K.length - (intOf i).toNat)
  case atStart => exact ⟨0, by omega, rfl, Below.refl _ _⟩
  case round =>
    obtain ⟨k, hk, rfl, hb⟩ := hrel
    have c0 := keep_cell (unhide H0) hb
    by_cases hlt : k < K.length
    · obtain ⟨gF, cF', gM, cM', ao, n, cap, g, m, e1, e2, hn, ct, cn, hao, hc⟩ := bk_at (unhide HK) (unhide HS) hlt
      simp only [Value.slice.injEq, true_and] at e1 e2
      obtain ⟨rfl, rfl⟩ := e1
      obtain ⟨rfl, rfl⟩ := e2
      have c2 := keep_cell (unhide H2) hb
      have cn' := keep_cell cn hb
      have HA := hide hao
      have HC := hide hc
      have CT := hide ct
      have HB := hide hb
      have k0 : (0 : Int) ≤ (k : Int) := by omega
      have k1 : (k : Int) < (K.length : Int) := by omega
      have hwz := hb.size
      clear hao hc ct cn hb
      go_wp2_with fail
      have BX := hide (grew_alloc (unhide HB) (.cells #[.int .u8 0, .int .u8 0, .int .u32 0, .int .u32 0, .int .u16 0, .int .u16 0, .int .i64 m] 67))
      have MX := hide (heap_alloc_new wr (.cells #[.int .u8 0, .int .u8 0, .int .u32 0, .int .u32 0, .int .u16 0, .int .u16 0, .int .i64 m] 67))
      clear HB c2 cn' c0
      generalize wr.alloc (.cells #[.int .u8 0, .int .u8 0, .int .u32 0, .int .u32 0, .int .u16 0, .int .u16 0, .int .i64 m] 67) = w2 at BX MX ⊢
      generalize wr.heap.size = gx at *
      go_loopw [5] (fun i wr => ∃ j : Nat, j ≤ n ∧ i = .int .i64 j ∧ Below w.heap.size w wr ∧ wr.heap[gx]? = some (.cells #[.int .u8 0, .int .u8 0, .int .u32 0, .int .u32 0, .int .u16 0, .int .u16 0, .int .i64 m] 67 (0, 0))) (fun i _ => n - (intOf i).toNat)
      case atStart => exact ⟨0, by omega, rfl, unhide BX, unhide MX⟩
      case round =>
        obtain ⟨j, hj, rfl, hb, hmx⟩ := hrel
        clear BX MX
        have c0 := keep_cell (unhide H0) hb
        have ct := keep_cell (unhide CT) hb
        have j0 : (0 : Int) ≤ (j : Int) := by omega
        by_cases hjn : j < n
        · obtain rfl := unhide HA (by omega)
          have j1 : (j : Int) < (n : Int) := by omega
          have cc := unhide HC j hjn
          have a0 := keep_cell (cc 0 _ rfl) hb
          have a1 := keep_cell (cc 1 _ rfl) hb
          have a2 := keep_cell (cc 2 _ rfl) hb
          have a3 := keep_cell (cc 3 _ rfl) hb
          have a4 := keep_cell (cc 4 _ rfl) hb
          have a5 := keep_cell (cc 5 _ rfl) hb
          have a6 := keep_cell (cc 6 _ rfl) hb
          have e0 := block_cell hmx 0
          have e1 := block_cell hmx 1
          have e2 := block_cell hmx 2
          have e3 := block_cell hmx 3
          have e4 := block_cell hmx 4
          have e5 := block_cell hmx 5
          have e6 := block_cell hmx 6
          rw [Nat.add_zero] at a0
          have HB := hide hb
          have HMX := hide hmx
          clear hb hmx cc
          go_wp2_with fail
          go_quiet (fail)
          all_goals go_wp2
          all_goals go_roundw
          case rel => exact ⟨j + 1, by omega, by go_num, below_drewN (unhide HB) _, by rw [World.heap_drewN]; exact unhide HMX⟩
          case measure => simp [intOf]; omega
        · have HB := hide hb
          clear hb hmx
          go_wp2_with fail
          go_roundw
          case rel => exact ⟨k + 1, by omega, by go_num, unhide HB⟩
          case measure => simp [intOf]; omega
    · have e : k = K.length := by omega
      subst e
      have HB := hide hb
      clear hb
      go_wp2_with fail
      go_loopw [6] (fun i wr => ∃ k : Nat, k ≤ KT.length ∧ i = .int .i64 k ∧ Below w.heap.size w wr) (fun i _ => KT.length - (intOf i).toNat)
      case atStart => exact ⟨0, by omega, rfl, unhide HB⟩
      case round =>
        clear c0 HB
        obtain ⟨k, hk, rfl, hb⟩ := hrel
        have c1 := keep_cell (unhide H1) hb
        by_cases hlt2 : k < KT.length
        · obtain ⟨gT, cT', gN, cN', ao, n, cap, g, x, e1, e2, hn, ct, cn, hao, hc⟩ := tx_at (unhide HT) hlt2
          simp only [Value.slice.injEq, true_and] at e1 e2
          obtain ⟨rfl, rfl⟩ := e1
          obtain ⟨rfl, rfl⟩ := e2
          have HA := hide hao
          have HC := hide hc
          have CT := hide ct
          have CN := hide cn
          have HB := hide hb
          clear hao hc ct cn hb
          go_wp2_with fail
          go_loopw [7] (fun i wr => ∃ j : Nat, j ≤ n ∧ i = .int .i64 j ∧ Below w.heap.size w wr) (fun i _ => n - (intOf i).toNat)
          case atStart => exact ⟨0, by omega, rfl, unhide HB⟩
          case round =>
            clear c1 HB
            obtain ⟨j, hj, rfl, hb⟩ := hrel
            have c1 := keep_cell (unhide H1) hb
            have ct := keep_cell (unhide CT) hb
            by_cases hjn : j < n
            · obtain rfl := unhide HA (by omega)
              have ck := keep_cell (unhide HC j hjn) hb
              have c3 := keep_cell (unhide H3) hb
              have cn := keep_cell (unhide CN) hb
              have HB := hide hb
              clear hb
              go_wp2_with fail
              go_quiet (fail)
              all_goals go_wp2
              all_goals go_roundw
              case rel => exact ⟨j + 1, by omega, by go_num, below_drewN (unhide HB) _⟩
              case measure => simp [intOf]; omega
            · have HB := hide hb
              clear hb
              go_wp2_with fail
              go_roundw
              case rel => exact ⟨k + 1, by omega, by go_num, unhide HB⟩
              case measure => simp [intOf]; omega
        · have e : k = KT.length := by omega
          subst e
          have HB := hide hb
          clear hb
          go_wp2_with fail
          go_ret
          exact ⟨rfl, unhide HB⟩

end Go.Proofs.YtgpojbgjfibblaaGreat.texts
