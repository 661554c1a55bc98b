/-
  The book of lists (package gistlaw): the walk of holds.
  Conditions stand in each theorem.
-/
import Derived.Test.YtgpojbgjfibblaaBookMore
namespace Go.Proofs.Ytgpojbgjfibblaa.texts
open Go.RowKit
set_option linter.unusedVariables false
attribute [local go_sem] bs_size bs_append List.length_append bs_list bs_toList bs_extract

/-- the lists of the book are short -/
def Shorts (K : List (Value × List UInt8)) : Prop := ∀ e ∈ K, ∃ ao n cap, e.1 = .slice ao n cap ∧ n ≤ 1000000
theorem Shorts.add {K : List (Value × List UInt8)} {v : Value} {x : List UInt8} (h : Shorts K) (hv : ∃ ao n cap, v = .slice ao n cap ∧ n ≤ 1000000) : Shorts (K ++ [(v, x)]) := by
  intro e he
  rcases List.mem_append.1 he with h1 | h1
  · exact h e h1
  · simp at h1; subst h1; exact hv

/-- the list is written full, one place more -/
theorem fill_set (xs : List Value) (k n : Nat) (x : List UInt8) (hk : k < n) (hn : xs.length = n) : (reps k x ++ xs.drop k).set k (.string (bs x)) = reps (k + 1) x ++ xs.drop (k + 1) := by
  have hr : (reps k x).length = k := by simp [reps]
  rw [List.set_append_right _ _ (by omega), hr, Nat.sub_self]
  have hd : xs.drop k = xs[k]'(by omega) :: xs.drop (k + 1) := List.drop_eq_getElem_cons (by omega)
  rw [hd, List.set_cons_zero]
  have e2 : reps (k + 1) x = reps k x ++ [.string (bs x)] := by unfold reps; rw [List.replicate_succ']
  rw [e2, List.append_assoc]; rfl
theorem fill_book {B : Nat} {w : World} {gB g : Nat} {vT vN : Value} {next : Int} {K : List (Value × List UInt8)} (h : BookAt B w gB vT vN next K) (hl : g ≠ gB ∧ vT.ownBlock ≠ some g ∧ vN.ownBlock ≠ some g) (hk : ∀ e ∈ K, e.1.ownBlock ≠ some g) (i : Nat) (v : Value) :
    BookAt B (w.setCell ⟨g, i, none⟩ v) gB vT vN next K := by
  have st : ∀ k, k ≠ g → (w.setCell ⟨g, i, none⟩ v).heap[k]? = w.heap[k]? := fun k hk => Below.heap_setCell _ _ _ _ (by simpa using hk)
  refine h.other (by simp) (fun k _ hs => st k ?_) (fun e he => (h.kept e he).1.keep (by simp) (fun g' hg' _ => st g' (fun e' => hk e he (by rw [hg', e']))))
  rcases hs with rfl | hs | hs
  · exact fun e => hl.1 e.symm
  · intro e; subst e; exact hl.2.1 hs
  · intro e; subst e; exact hl.2.2 hs

set_option maxRecDepth 100000 in
set_option maxHeartbeats 4000000 in
theorem holds_any (B : Nat) (w : World) (gB : Nat) (vT vN : Value) (next : Int) (K : List (Value × List UInt8)) (l : Value) (n : Nat) (xs : List Value) (hK : BookAt B w gB vT vN next K) (hlen : K.length ≤ 536870912) (h0 : -536870912 ≤ next) (h1 : next ≤ 536870912)
    (hl : w.ownsRow B 9 1 l n xs) (hn : n ≤ 8) (hap : ApartOf l gB vT vN) (hkl : ∀ e ∈ K, ∀ g, l.ownBlock = some g → e.1.ownBlock ≠ some g) :
    Calls Try.prog 35 #[.pointer (some ⟨gB, 0, none⟩), l] w fun e w' => e = .returned (.tuple #[]) ∧ ∃ vT' vN' K', BookAt B w' gB vT' vN' (next - 1) K' ∧ K'.length = K.length + 4 ∧ (Shorts K → Shorts K') ∧ Below B w w' := by
  obtain ⟨i1, ki, kz0, kz1, kz2⟩ := info_parts infoS
  obtain ⟨ao, cap, rfl⟩ := own_slice hl
  have HK := hide hK
  have HL := hide hl
  have HAP := hide hap
  have HKL := hide hkl
  have hlow := hK.low
  have hxs := hide hl.1
  clear hK hl hap hkl
  go_enter Try.func35, Try.ntmps35
  go_wp2_with fail
  refine (mark_any B w gB vT vN next K (unhide HK) (by omega) (by omega)).mono ?_
  rintro e w1 ⟨rfl, hw1⟩
  have k1 : BookAt B w1 gB vT vN (next - 1) K := by rw [hw1]; exact mark_book (unhide HK) _
  have l1 : w1.ownsRow B 9 1 (.slice ao n cap) n xs := by rw [hw1]; exact ownsRow_setCell_other (unhide HL) (fun e => (unhide HAP gB e).1 rfl) _
  have b1 : Below B w w1 := by rw [hw1]; exact (Below.refl B w).setCell hlow _
  have B1 := hide b1
  have K1 := hide k1
  have L1 := hide l1
  clear hw1 k1 l1 b1 HK HL
  go_wp2_with fail
  refine (name_any _ _ (by omega) (by omega)).mono ?_
  rintro e w2 ⟨x, rfl, hb2⟩
  have K2 := hide ((unhide K1).grew hb2)
  have L2 := hide (own_keep (unhide L1) hb2)
  have hBw1 : B ≤ w1.heap.size := by have := block_lt (unhide K1).blk; omega
  have B2 := hide ((unhide B1).trans (hb2.mono hBw1))
  clear hb2 K1 L1 B1 hBw1
  go_wp2_with fail
  go_loopw [5] (fun i wr => ∃ k : Nat, k ≤ n ∧ i = .int .i64 k ∧ wr.ownsRow B 9 1 (.slice ao n cap) n (reps k x ++ xs.drop k) ∧ BookAt B wr gB vT vN (next - 1) K ∧ Below B w wr) (fun i _ => n - (intOf i).toNat)
  case atStart => exact ⟨0, by omega, rfl, by simpa [reps] using unhide L2, unhide K2, unhide B2⟩
  case round =>
    obtain ⟨k, hk, rfl, hown, hbook, hbel⟩ := hrel
    clear K2 L2 B2
    by_cases hlt : k < n
    · obtain ⟨g, rfl⟩ : ∃ g, ao = some ⟨g, 0, none⟩ := by
        rcases hown.2 with ⟨h3, h4⟩ | ⟨g, cap', cur, h3, _⟩
        · omega
        · simp at h3; exact ⟨g, h3.1⟩
      have hxl : xs.length = n := by have := unhide hxs; omega
      have hc : ∃ u, w.cell? ⟨0, 0, none⟩ = u := ⟨_, rfl⟩
      obtain ⟨u0, hcell⟩ : ∃ u0, wr.cell? ⟨g, k, none⟩ = some u0 := by
        rw [hown.cellAt k (by omega)]
        exact ⟨_, List.getElem?_eq_getElem (by simp [reps]; omega)⟩
      have hfz := hown.frozenAt k
      have hst := hide ((hown.stored k (.string (bs x))).1)
      rw [fill_set xs k n x hlt hxl] at hst
      have hge := hide (own_lt hown rfl).1
      have KB := hide (fill_book hbook (unhide HAP g rfl) (fun e he => unhide HKL e he g rfl) k (.string (bs x)))
      have BB := hide hbel
      clear hown hbook hbel hc
      go_wp2
      go_roundw
      case rel => exact ⟨k + 1, by omega, by go_num, unhide hst, unhide KB, (unhide BB).setCell (p := ⟨g, k, none⟩) (unhide hge) _⟩
      case measure => simp [intOf]; omega
    · have e : n = k := by omega
      subst e
      have hd : xs.drop n = [] := List.drop_of_length_le (by have := unhide hxs; omega)
      rw [hd, List.append_nil] at hown
      have H0 : Hid (Hold B wr gB vT vN (next - 1) K (.slice ao n cap) n n x) := ⟨hbook, hown, unhide HAP, fun e he g a1 a2 => absurd a2 (unhide HKL e he g a1)⟩
      have BB := hide hbel
      clear hown hbook hbel hd
      go_wp2_with fail
      refine (keeps_any B wr gB vT vN _ K _ x (unhide H0).book (by omega) (kept_own (unhide H0).own) (unhide H0).apart).mono ?_
      rintro e w3 ⟨rfl, vT3, vN3, hb3, hs3⟩
      have H3 := hide (hold_keep (unhide H0) hb3 hs3 (fun g a1 a2 => by simp [Value.ownBlock] at a1; rcases (unhide H0).own.2 with ⟨h3, h4⟩ | ⟨g', cap', cur, h3, _⟩ <;> simp at h3 <;> simp_all))
      have B3 := hide ((unhide BB).trans hs3.below)
      clear hb3 hs3 H0 BB
      go_wp2_with (at_builtin; refine append_hold (m := 1) (unhide H3) (by omega) (by omega) (by omega) rfl _ _ rfl rfl _ rfl rfl ?_; rintro v4 w4 h4 k4 a4 p4 b4 ⟨ao4, cap4, rfl⟩; have H4 := hide h4; have KK4 := hide k4; have AA4 := hide a4; have PP4 := hide p4; have B4 := hide (Below.trans (unhide B3) b4); clear h4 k4 a4 p4 b4)
      clear H3 B3
      refine (keeps_any B w4 gB _ _ _ _ _ x (unhide H4).book (by simp; omega) (unhide KK4) (unhide AA4)).mono ?_
      rintro e w5 ⟨rfl, vT5, vN5, hb5, hs5⟩
      have H5 := hide (hold_keep (unhide H4) hb5 hs5 (unhide PP4))
      have B5 := hide ((unhide B4).trans hs5.below)
      clear hb5 hs5 H4 KK4 AA4 PP4 B4
      go_wp2_with (at_builtin; refine append_hold (m := 2) (unhide H5) (by omega) (by omega) (by omega) rfl _ _ rfl rfl _ rfl rfl ?_; rintro v6 w6 h6 k6 a6 p6 b6 ⟨ao6, cap6, rfl⟩; have H6 := hide h6; have KK6 := hide k6; have AA6 := hide a6; have PP6 := hide p6; have B6 := hide (Below.trans (unhide B5) b6); clear h6 k6 a6 p6 b6)
      clear H5 B5
      refine (keeps_any B w6 gB _ _ _ _ _ x (unhide H6).book (by simp; omega) (unhide KK6) (unhide AA6)).mono ?_
      rintro e w7 ⟨rfl, vT7, vN7, hb7, hs7⟩
      have H7 := hide (hold_keep (unhide H6) hb7 hs7 (unhide PP6))
      have B7 := hide ((unhide B6).trans hs7.below)
      clear hb7 hs7 H6 KK6 AA6 PP6 B6
      go_wp2_with (at_builtin; refine append_hold (m := 3) (unhide H7) (by omega) (by omega) (by omega) rfl _ _ rfl rfl _ rfl rfl ?_; rintro v8 w8 h8 k8 a8 p8 b8 ⟨ao8, cap8, rfl⟩; have H8 := hide h8; have KK8 := hide k8; have AA8 := hide a8; have PP8 := hide p8; have B8 := hide (Below.trans (unhide B7) b8); clear h8 k8 a8 p8 b8)
      clear H7 B7
      refine (keeps_any B w8 gB _ _ _ _ _ x (unhide H8).book (by simp; omega) (unhide KK8) (unhide AA8)).mono ?_
      rintro e w9 ⟨rfl, vT9, vN9, hb9, hs9⟩
      have H9 := hide (hold_keep (unhide H8) hb9 hs9 (unhide PP8))
      have B9 := hide ((unhide B8).trans hs9.below)
      clear hb9 hs9 H8 KK8 AA8 PP8 B8
      go_wp2
      go_end0
      exact ⟨rfl, _, _, _, (unhide H9).book, by simp, fun hs => (((hs.add ⟨_, _, _, rfl, by omega⟩).add ⟨_, _, _, rfl, by omega⟩).add ⟨_, _, _, rfl, by omega⟩).add ⟨_, _, _, rfl, by omega⟩, unhide B9⟩

end Go.Proofs.Ytgpojbgjfibblaa.texts
