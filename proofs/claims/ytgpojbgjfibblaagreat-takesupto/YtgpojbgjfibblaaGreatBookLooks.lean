/-
  The book of lists (package gistlaw): the walk of looks.
  Conditions stand in each theorem.
-/
import Derived.Test.YtgpojbgjfibblaaGreatPart10
namespace Go.Proofs.YtgpojbgjfibblaaGreat.texts
open Go.RowKit
set_option linter.unusedVariables false
attribute [local go_sem] bs_size bs_append List.length_append bs_list bs_toList bs_extract

/-- what the book holds at a place -/
theorem book_at {B : Nat} {w : World} {gB : Nat} {vT vN : Value} {next : Int} {K : List (Value × List UInt8)} (h : BookAt B w gB vT vN next K) (hS : Shorts K) {k : Nat} (hk : k < K.length) :
    ∃ gT cT gN cN ao n cap g x, vT = .slice (some ⟨gT, 0, none⟩) K.length cT ∧ vN = .slice (some ⟨gN, 0, none⟩) K.length cN ∧ n ≤ 1000000 ∧ w.cell? ⟨gT, k, none⟩ = some (.slice ao n cap) ∧ w.cell? ⟨gN, k, none⟩ = some (.string (bs x))
      ∧ (0 < n → ao = some ⟨g, 0, none⟩) ∧ ∀ i, i < n → w.cell? ⟨g, i, none⟩ = some (.string (bs x)) := by
  have hm : K[k] ∈ K := List.getElem_mem _
  obtain ⟨ao, n, cap, he, hn⟩ := hS _ hm
  have hkp := (h.kept _ hm).1
  rcases h.oT.2 with ⟨_, h0⟩ | ⟨gT, cT, curT, rfl, _⟩
  · omega
  rcases h.oN.2 with ⟨_, h0⟩ | ⟨gN, cN, curN, rfl, _⟩
  · omega
  have ct : w.cell? ⟨gT, k, none⟩ = some (.slice ao n cap) := by
    rw [h.oT.cellAt k (by omega), List.getElem?_map, List.getElem?_eq_getElem hk]; simp [he]
  have cn : w.cell? ⟨gN, k, none⟩ = some (.string (bs K[k].2)) := by
    rw [h.oN.cellAt k (by omega), List.getElem?_map, List.getElem?_eq_getElem hk]; simp
  rcases hkp with e | ⟨g, n', cap', e, hg, hc⟩
  · rw [he] at e
    simp at e
    exact ⟨gT, cT, gN, cN, ao, n, cap, 0, _, rfl, rfl, hn, ct, cn, fun h => by omega, fun i hi => by omega⟩
  · rw [he] at e
    simp at e
    obtain ⟨rfl, rfl, rfl⟩ := e
    exact ⟨gT, cT, gN, cN, _, n, cap, g, _, rfl, rfl, hn, ct, cn, fun _ => rfl, hc⟩

set_option maxRecDepth 100000 in
set_option maxHeartbeats 4000000 in
theorem looks_any (B : Nat) (w : World) (gB : Nat) (vT vN : Value) (next : Int) (K : List (Value × List UInt8)) (hK : BookAt B w gB vT vN next K) (hS : Shorts K) (hlen : K.length ≤ 1073741824) :
    Calls Tryz.prog 8 #[.pointer (some ⟨gB, 0, none⟩)] w fun e w' => e = .returned (.bool true) ∧ Below w.heap.size w w' := by
  have c0 : w.cell? ⟨gB, 0, none⟩ = some (.slice none 0 0) := block_cell hK.blk 0
  have c1 : w.cell? ⟨gB, 1, none⟩ = some vT := block_cell hK.blk 1
  have c3 : w.cell? ⟨gB, 3, none⟩ = some vN := block_cell hK.blk 3
  obtain ⟨aT, cT, rfl⟩ := own_slice hK.oT
  obtain ⟨aN, cN, rfl⟩ := own_slice hK.oN
  have HK := hide hK
  have HS := hide hS
  have H0 := hide c0
  have H1 := hide c1
  have H3 := hide c3
  clear hK hS c0 c1 c3
  go_enter Tryz.func8, Tryz.ntmps8
  go_wp2_with fail
  go_loopw [3] (fun i wr => i = .int .i64 0 ∧ Below w.heap.size w wr) (fun i _ => 0)
  case atStart => exact ⟨rfl, Below.refl _ _⟩
  case round =>
    obtain ⟨rfl, hb⟩ := hrel
    have c0 := keep_cell (unhide H0) hb
    have HB := hide hb
    clear hb
    go_wp2_with fail
    go_loopw [6] (fun i wr => ∃ k : Nat, k ≤ K.length ∧ i = .int .i64 k ∧ Below w.heap.size w wr) (fun i _ => K.length - (intOf i).toNat)
    case atStart => exact ⟨0, by omega, rfl, unhide HB⟩
    case round =>
      clear c0 HB
      obtain ⟨k, hk, rfl, hb⟩ := hrel
      have c1 := keep_cell (unhide H1) hb
      by_cases hlt : k < K.length
      · obtain ⟨gT, cT', gN, cN', ao, n, cap, g, x, e1, e2, hn, ct, cn, hao, hc⟩ := book_at (unhide HK) (unhide HS) hlt
        simp only [Value.slice.injEq, true_and] at e1 e2
        obtain ⟨rfl, rfl⟩ := e1
        obtain ⟨rfl, rfl⟩ := e2
        have HA := hide hao
        have HC := hide hc
        have CT := hide ct
        have CN := hide cn
        have HB := hide hb
        clear hao hc ct cn hb
        go_wp2_with fail
        go_loopw [7] (fun i wr => ∃ j : Nat, j ≤ n ∧ i = .int .i64 j ∧ Below w.heap.size w wr) (fun i _ => n - (intOf i).toNat)
        case atStart => exact ⟨0, by omega, rfl, unhide HB⟩
        case round =>
          clear c1 HB
          obtain ⟨j, hj, rfl, hb⟩ := hrel
          have c1 := keep_cell (unhide H1) hb
          have ct := keep_cell (unhide CT) hb
          by_cases hjn : j < n
          · obtain rfl := unhide HA (by omega)
            have ck := keep_cell (unhide HC j hjn) hb
            have c3 := keep_cell (unhide H3) hb
            have cn := keep_cell (unhide CN) hb
            have HB := hide hb
            clear hb
            go_wp2_with fail
            go_quiet (fail)
            all_goals go_wp2
            all_goals go_roundw
            case rel => exact ⟨j + 1, by omega, by go_num, below_drewN (unhide HB) _⟩
            case measure => simp [intOf]; omega
          · have HB := hide hb
            clear hb
            go_wp2_with fail
            go_roundw
            case rel => exact ⟨k + 1, by omega, by go_num, unhide HB⟩
            case measure => simp [intOf]; omega
      · have e : k = K.length := by omega
        subst e
        have HB := hide hb
        clear hb
        go_wp2_with fail
        go_ret
        exact ⟨rfl, unhide HB⟩

end Go.Proofs.YtgpojbgjfibblaaGreat.texts
