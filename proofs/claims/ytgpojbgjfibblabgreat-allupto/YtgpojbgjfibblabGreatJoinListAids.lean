/-
  Plain functions on lists of frames: the length that is told, Join, the first frame of a text, Split. Lists of texts in memory; the walks of the document's told and Join (package gistref). The walks of the document's first and Split (package gistref). Plain facts on packets' texts: what is written is read back; with one byte turned it is refused. Plain facts on lists of frames: what is joined is split again, what is split and joined is the text. The length with which a text begins, read at once: it is the least length with which the document finds a frame. The walks of the program's Join (packages bundle and gist), and of the length with which a text begins. The walks of the program's Split (packages bundle and gist). The walk of the statement Again (package gistkeep). The walks of copied, sameTexts and joined (package gistlaw).
  Conditions stand in each theorem.
-/
import Derived.Test.YtgpojbgjfibblabGreatJoinSendModel
import Derived.Deep.QuietTactic
import Derived.BigQuiet
namespace Go.Proofs.YtgpojbgjfibblabGreat.texts
set_option linter.unusedVariables false

/-- a length, as it is told -/
def toldL (n : Nat) : List UInt8 := if n < 128 then be n 1 else be (32768 + n) 2
theorem toldL_length (n : Nat) : (toldL n).length = if n < 128 then 1 else 2 := by
  unfold toldL; split <;> simp [be_length]
theorem toldL_le (n : Nat) : (toldL n).length ≤ 2 := by rw [toldL_length]; split <;> omega
theorem toldL_pos (n : Nat) : 1 ≤ (toldL n).length := by rw [toldL_length]; split <;> omega

/-- frames, one behind the other -/
def joinL : List (List UInt8) → List UInt8
  | [] => []
  | f :: r => toldL f.length ++ (f ++ joinL r)
theorem joinL_snoc (l : List (List UInt8)) (f : List UInt8) : joinL (l ++ [f]) = joinL l ++ (toldL f.length ++ f) := by
  induction l with
  | nil => simp [joinL]
  | cons g r ih => simp [joinL, ih]
theorem joinL_length (l : List (List UInt8)) (h : ∀ f ∈ l, f.length ≤ 300) : (joinL l).length ≤ 302 * l.length := by
  induction l with
  | nil => simp [joinL]
  | cons f r ih =>
    have h1 := h f (by simp)
    have h2 := ih (fun g hg => h g (by simp [hg]))
    have h3 := toldL_le f.length
    simp [joinL]
    omega

/-- what Join answers -/
def longOne (l : List (List UInt8)) : Bool := l.any fun f => decide (300 < f.length)
def joinE (l : List (List UInt8)) : Int := if 8 < l.length then 3 else if longOne l = true then 2 else 0
def joinR (l : List (List UInt8)) : List UInt8 := if joinE l = 0 then joinL l else []

/-- does a text begin with the length n and so many bytes? -/
def begins (s : List UInt8) (n : Nat) : Bool := decide (n ≤ 300) && decide (n < s.length) && decide ((toldL n).length + n ≤ s.length) && decide (s.take (toldL n).length = toldL n)
/-- the first frame of a text, by the least length with which it begins, tried from k on, m of them -/
def firstFrom (s : List UInt8) : Nat → Nat → Option Nat
  | _, 0 => none
  | k, m + 1 => if begins s k = true then some k else firstFrom s (k + 1) m
def firstN (s : List UInt8) : Option Nat := firstFrom s 0 301
def frameOf (s : List UInt8) (n : Nat) : List UInt8 := (s.drop (toldL n).length).take n
def restOf (s : List UInt8) (n : Nat) : List UInt8 := s.drop ((toldL n).length + n)

/-- the frames of a text, at most m of them -/
def splitL : Nat → List UInt8 → Option (List (List UInt8))
  | m, s => if s = [] then some [] else
    match firstN s with
    | none => none
    | some n => match m with
      | 0 => none
      | m + 1 => (splitL m (restOf s n)).map (frameOf s n :: ·)
def splitE (s : List UInt8) : Int := match splitL 8 s with | some _ => 0 | none => 4
def splitR (s : List UInt8) : List (List UInt8) := (splitL 8 s).getD []

theorem firstFrom_begins (s : List UInt8) (k m n : Nat) (h : firstFrom s k m = some n) : begins s n = true := by
  induction m generalizing k with
  | zero => simp [firstFrom] at h
  | succ m ih =>
    unfold firstFrom at h
    split at h
    · rename_i hb
      simp at h
      subst h
      exact hb
    · exact ih _ h
theorem begins_facts {s : List UInt8} {n : Nat} (h : begins s n = true) : n ≤ 300 ∧ n < s.length ∧ (toldL n).length + n ≤ s.length ∧ s.take (toldL n).length = toldL n := by
  unfold begins at h
  simp only [Bool.and_eq_true, decide_eq_true_eq] at h
  exact ⟨h.1.1.1, h.1.1.2, h.1.2, h.2⟩
theorem begins_mk {s : List UInt8} {n : Nat} (h1 : n ≤ 300) (h2 : n < s.length) (h3 : (toldL n).length + n ≤ s.length) (h4 : s.take (toldL n).length = toldL n) : begins s n = true := by
  unfold begins; simp [h1, h2, h3, h4]

end Go.Proofs.YtgpojbgjfibblabGreat.texts

namespace Go.Proofs.YtgpojbgjfibblabGreat.texts
open Go.RowKit
set_option linter.unusedVariables false
attribute [local go_sem ↓] Go.wp_at_zero Go.wp_at_succ
attribute [local go_sem] bs_size bs_append List.length_append bs_list bs_toList

/-- a slice value reads as a list of texts -/
structure TextsAt (w : World) (v : Value) (ls : List (List UInt8)) (ao : Option Addr) (b off cap : Nat) : Prop where
  form : v = .slice ao ls.length cap
  addr : 0 < ls.length → ao = some ⟨b, off, none⟩
  cell : ∀ i, i < ls.length → w.cell? ⟨b, off + i, none⟩ = some (.string (bs (ls[i]?.getD [])))
theorem TextsAt.lt {w : World} {v : Value} {ls : List (List UInt8)} {ao : Option Addr} {b off cap : Nat} (h : TextsAt w v ls ao b off cap) (hn : 0 < ls.length) : b < w.heap.size := by
  have h1 := h.cell 0 hn
  by_cases h2 : b < w.heap.size
  · exact h2
  · simp [World.cell?, Array.getElem?_eq_none (Nat.le_of_not_lt h2)] at h1
theorem TextsAt.keep {w w2 : World} {v : Value} {ls : List (List UInt8)} {ao : Option Addr} {b off cap : Nat} (h : TextsAt w v ls ao b off cap) (hb : Below w.heap.size w w2) : TextsAt w2 v ls ao b off cap :=
  ⟨h.form, h.addr, fun i hi => by rw [hb.cell (p := ⟨b, off + i, none⟩) (h.lt (by omega))]; exact h.cell i hi⟩

set_option maxRecDepth 100000 in
set_option maxHeartbeats 400000 in
theorem told_any (n : Int) (w : World) (h0 : 0 ≤ n) (h1 : n ≤ 32767) :
    Calls Tryz.prog 62 #[.int .i64 n] w fun e w' => e = .returned (.string (bs (toldL n.toNat))) ∧ Below w.heap.size w w' := by
  obtain ⟨n, rfl⟩ := Int.eq_ofNat_of_zero_le h0
  rw [Int.toNat_natCast]
  by_cases h : n < 128
  · have e := hide (show toldL n = be n 1 by unfold toldL; rw [if_pos h])
    go_enter Tryz.func62, Tryz.ntmps62
    go_wp2_with (go_at_call 81; refine (bytes_any _ _ _ (by omega) (by omega) (by omega) (by omega)).mono ?_; rintro e w' ⟨rfl, hbel⟩)
    go_ret
    exact ⟨ret_str (by rw [unhide e]), hbel⟩
  · have e := hide (show toldL n = be (32768 + n) 2 by unfold toldL; rw [if_neg h])
    go_enter Tryz.func62, Tryz.ntmps62
    go_wp2_with (go_at_call 81; refine (bytes_any _ _ _ (by omega) (by omega) (by omega) (by omega)).mono ?_; rintro e w' ⟨rfl, hbel⟩)
    go_ret
    exact ⟨ret_str (by rw [unhide e, show (32768 + (n : Int)).toNat = 32768 + n by omega]), hbel⟩

theorem ret_si' {a b : ByteArray} {c d : Int} (h : a = b) (g : c = d) : Ending.returned (.tuple #[.string a, .int .i64 c]) = .returned (.tuple #[.string b, .int .i64 d]) := by rw [h, g]

theorem joinE_many {ls : List (List UInt8)} (h : 8 < ls.length) : joinE ls = 3 ∧ joinR ls = [] := by
  have e : joinE ls = 3 := by unfold joinE; rw [if_pos h]
  exact ⟨e, by unfold joinR; rw [if_neg (by rw [e]; decide)]⟩
theorem joinE_long {ls : List (List UInt8)} (h : ¬ 8 < ls.length) {k : Nat} (hk : k < ls.length) (hl : 300 < (ls[k]?.getD []).length) : joinE ls = 2 ∧ joinR ls = [] := by
  have hm : longOne ls = true := by
    unfold longOne
    rw [List.any_eq_true]
    refine ⟨ls[k], List.getElem_mem hk, ?_⟩
    rw [List.getElem?_eq_getElem hk] at hl
    simpa using hl
  have e : joinE ls = 2 := by unfold joinE; rw [if_neg h, if_pos hm]
  exact ⟨e, by unfold joinR; rw [if_neg (by rw [e]; decide)]⟩
theorem joinE_good {ls : List (List UInt8)} (h : ¬ 8 < ls.length) (hl : ∀ f ∈ ls, f.length ≤ 300) : joinE ls = 0 ∧ joinR ls = joinL ls := by
  have hm : longOne ls = false := by
    unfold longOne
    rw [List.any_eq_false]
    intro f hf
    have := hl f hf
    simp; omega
  have e : joinE ls = 0 := by unfold joinE; rw [if_neg h, if_neg (by rw [hm]; decide)]
  exact ⟨e, by unfold joinR; rw [if_pos e]⟩
theorem take_next {ls : List (List UInt8)} {k : Nat} (hk : k < ls.length) : ls.take (k + 1) = ls.take k ++ [ls[k]?.getD []] := by
  rw [List.take_succ_eq_append_getElem hk, List.getElem?_eq_getElem hk]; rfl

set_option maxHeartbeats 1000000 in
theorem rjoin_any (w : World) (v : Value) (ls : List (List UInt8)) (ao : Option Addr) (b off cap : Nat) (hT : TextsAt w v ls ao b off cap) (hmax : ls.length ≤ 9223372036854775807) :
    Calls Tryz.prog 36 #[v] w fun e w' => e = .returned (.tuple #[.string (bs (joinR ls)), .int .i64 (joinE ls)]) ∧ Below w.heap.size w w' := by
  obtain ⟨rfl, haddr, hcell⟩ := hT
  by_cases hmany : 8 < ls.length
  · have e := hide (joinE_many hmany)
    clear haddr hcell
    go_enter Tryz.func36, Tryz.ntmps36
    go_wp2_with fail
    go_ret2
    exact ⟨ret_si' (by rw [(unhide e).2]; rfl) (unhide e).1.symm, Below.refl _ _⟩
  · have HA := hide haddr
    have HC := hide hcell
    have HT : Hid (TextsAt w (.slice ao ls.length cap) ls ao b off cap) := ⟨rfl, haddr, hcell⟩
    clear haddr hcell
    go_enter Tryz.func36, Tryz.ntmps36
    go_wp2_with fail
    go_loopw [4, 5] (fun s i wr => ∃ k : Nat, k ≤ ls.length ∧ i = .int .i64 k ∧ s = .string (bs (joinL (ls.take k))) ∧ (∀ f ∈ ls.take k, f.length ≤ 300) ∧ Below w.heap.size w wr) (fun _ i _ => ls.length - (intOf i).toNat)
    case atStart => exact ⟨0, Nat.zero_le _, rfl, rfl, by simp, Below.refl _ _⟩
    case round =>
      obtain ⟨k, hk, rfl, rfl, hsh, hbel⟩ := hrel
      have Hsh := hide hsh
      have HB := hide hbel
      clear hsh hbel
      by_cases hlt : k < ls.length
      · obtain rfl := unhide HA (by omega)
        have hc := ((unhide HT).keep (unhide HB)).cell k hlt
        have hnext := hide (take_next hlt)
        have hJ := joinL_length (ls.take k) (unhide Hsh)
        have hJ2 : (ls.take k).length ≤ 8 := by simp; omega
        by_cases hlong : 300 < (ls[k]?.getD []).length
        · have e := hide (joinE_long hmany hlt hlong)
          generalize hf : ls[k]?.getD [] = f at *
          clear hf
          go_wp2_with fail
          go_ret2
          exact ⟨ret_si' (by rw [(unhide e).2]; rfl) (unhide e).1.symm, unhide HB⟩
        · generalize hf : ls[k]?.getD [] = f at *
          have Hf := hide hf
          have hT2 := toldL_le f.length
          generalize hA : joinL (ls.take k) = A at *
          have HAA := hide hA
          clear hf hA
          have hA2 : A.length ≤ 2416 := by omega
          have hn1 : ¬ 9223372036854775807 < A.length + (toldL f.length).length := by omega
          have hn2 : ¬ 9223372036854775807 < A.length + (toldL f.length).length + f.length := by omega
          have hn3 : ¬ 9223372036854775807 < A.length + ((toldL f.length).length + f.length) := by omega
          have hk0 : (0 : Int) ≤ (k : Int) := by omega
          have hk1 : (k : Int) < (ls.length : Int) := by omega
          go_wp2_with fail
          go_region_held3 (fun w' => w'.cell? ⟨b, off + k, none⟩ = some (.string (bs f)) ∧ Below w.heap.size w w')
            (first | exact ⟨hc, (unhide HB).drew⟩ | (go_split_ands; exact ⟨keep_cell (by assumption) hbel, grew_call (by assumption) hbel⟩))
            ((go_at_call 62; refine (told_any _ _ (by omega) (by omega)).mono ?_; rintro e w' ⟨rfl, hbel⟩))
          all_goals go_split_ands
          all_goals
            have HB' := hide (show Below w.heap.size w w' by assumption)
            go_wp2
            go_roundw
            case rel =>
              refine ⟨k + 1, by omega, by go_num, ?_, ?_, unhide HB'⟩
              · rw [unhide hnext, joinL_snoc, unhide HAA]
              · rw [unhide hnext]
                intro g hg
                rcases List.mem_append.1 hg with hg | hg
                · exact unhide Hsh g hg
                · simp at hg; subst hg; omega
            case measure => simp [intOf]; omega
      · have e : k = ls.length := by omega
        subst e
        have Hsh2 := unhide Hsh
        rw [List.take_length] at Hsh2
        have e := hide (joinE_good hmany Hsh2)
        clear Hsh2
        go_wp2_with fail
        go_ret2
        exact ⟨ret_si' (by rw [(unhide e).2, List.take_length]) (unhide e).1.symm, unhide HB⟩

end Go.Proofs.YtgpojbgjfibblabGreat.texts

namespace Go.Proofs.YtgpojbgjfibblabGreat.texts
open Go.RowKit
set_option linter.unusedVariables false
attribute [local go_sem ↓] Go.wp_at_zero Go.wp_at_succ
attribute [local go_sem] bs_size bs_append List.length_append bs_list bs_toList bs_extract

/-- what first answers -/
def firstF (s : List UInt8) : List UInt8 := match firstN s with | some n => frameOf s n | none => []
def firstR (s : List UInt8) : List UInt8 := match firstN s with | some n => restOf s n | none => []

theorem ret_ssb {a b c d : ByteArray} {x y : Bool} (h : a = b) (g : c = d) (i : x = y) : Ending.returned (.tuple #[.string a, .string c, .bool x]) = .returned (.tuple #[.string b, .string d, .bool y]) := by rw [h, g, i]

theorem firstN_found {s : List UInt8} {k : Nat} (h : firstN s = firstFrom s k (301 - k)) (hk : k ≤ 300) (hb : begins s k = true) : firstN s = some k := by
  rw [h, show 301 - k = (300 - k) + 1 by omega, firstFrom, if_pos hb]
theorem firstN_next {s : List UInt8} {k : Nat} (h : firstN s = firstFrom s k (301 - k)) (hk : k ≤ 300) (hb : begins s k = false) : firstN s = firstFrom s (k + 1) (301 - (k + 1)) := by
  rw [h, show 301 - k = (301 - (k + 1)) + 1 by omega, firstFrom, if_neg (by rw [hb]; decide)]
theorem firstFrom_none (s : List UInt8) (k m : Nat) (h : s.length ≤ k ∨ 300 < k) : firstFrom s k m = none := by
  induction m generalizing k with
  | zero => rfl
  | succ m ih =>
    rw [firstFrom, if_neg, ih (k + 1) (by omega)]
    intro hb
    have := begins_facts hb
    omega
theorem begins_no {s : List UInt8} {n : Nat} (h : ¬ ((toldL n).length + n ≤ s.length ∧ s.take (toldL n).length = toldL n)) : begins s n = false := by
  cases hb : begins s n
  · rfl
  · have := begins_facts hb
    exact absurd ⟨this.2.2.1, this.2.2.2⟩ h

theorem frame_cut {s : List UInt8} {k : Nat} (h : firstN s = some k) : bs (List.drop (toldL k).length (List.take ((toldL k).length + k) s)) = bs (firstF s) := by
  unfold firstF
  rw [h]
  simp only [frameOf]
  rw [List.drop_take, Nat.add_sub_cancel_left]

set_option maxRecDepth 100000 in
set_option maxHeartbeats 1000000 in
theorem first_any (s : List UInt8) (w : World) (hs : s.length ≤ 9223372036854775807) :
    Calls Tryz.prog 64 #[.string (bs s)] w fun e w' => e = .returned (.tuple #[.string (bs (firstF s)), .string (bs (firstR s)), .bool (firstN s).isSome]) ∧ Below w.heap.size w w' := by
  go_enter Tryz.func64, Tryz.ntmps64
  go_wp2_with fail
  go_loopw [5] (fun n wr => ∃ k : Nat, k ≤ 301 ∧ n = .int .i64 k ∧ firstN s = firstFrom s k (301 - k) ∧ Below w.heap.size w wr) (fun n _ => 301 - (intOf n).toNat)
  case atStart => exact ⟨0, by omega, rfl, rfl, Below.refl _ _⟩
  case round =>
    obtain ⟨k, hk, rfl, hfirst, hbel⟩ := hrel
    have HF := hide hfirst
    have HB := hide hbel
    clear hfirst hbel
    by_cases hin : k ≤ 300 ∧ k < s.length
    · obtain ⟨h3, hlt⟩ := hin
      have hK1 := toldL_pos k
      have hK2 := toldL_le k
      by_cases hfit : (toldL k).length + k ≤ s.length
      · by_cases heq : s.take (toldL k).length = toldL k
        · have hfound := hide (firstN_found (unhide HF) h3 (begins_mk h3 hlt hfit heq))
          have heq2 : (List.take (toldL k).length s == toldL k) = true := by rw [heq]; simp
          have Heq := hide heq
          clear heq
          have hi1 : (0 : Int) ≤ ((toldL k).length : Int) := by omega
          have hi2 : ((toldL k).length : Int) ≤ (s.length : Int) := by omega
          have hi3 : ((toldL k).length : Int) ≤ ((toldL k).length : Int) + (k : Int) := by omega
          have hi4 : ((toldL k).length : Int) + (k : Int) ≤ (s.length : Int) := by omega
          have hi5 : (0 : Int) ≤ ((toldL k).length : Int) + (k : Int) := by omega
          have hi6 : IntKind.i64.wrap (((toldL k).length : Int) + (k : Int)) = ((toldL k).length : Int) + (k : Int) := wrap_id (by omega) (by omega)
          go_wp2_with (go_at_call 62; refine (told_any _ _ (by omega) (by omega)).mono ?_; rintro e w' ⟨rfl, hbel⟩; rw [Int.toNat_natCast])
          have HB2 := hide (grew_call (unhide HB) hbel)
          clear hbel
          go_quiet (fail)
          all_goals go_wp2
          all_goals go_ret3
          all_goals exact ⟨ret_ssb (by rw [frame_cut (unhide hfound)]) (by unfold firstR; rw [unhide hfound]; rfl) (by rw [unhide hfound]; rfl), below_drewN (unhide HB2) _⟩
        · have hnext := hide (firstN_next (unhide HF) h3 (begins_no (fun h => heq h.2)))
          have heq2 : (List.take (toldL k).length s == toldL k) = false := by rw [beq_eq_false_iff_ne]; exact heq
          have Heq := hide heq
          clear heq
          have hi1 : (0 : Int) ≤ ((toldL k).length : Int) := by omega
          have hi2 : ((toldL k).length : Int) ≤ (s.length : Int) := by omega
          go_wp2_with (go_at_call 62; refine (told_any _ _ (by omega) (by omega)).mono ?_; rintro e w' ⟨rfl, hbel⟩; rw [Int.toNat_natCast])
          have HB2 := hide (grew_call (unhide HB) hbel)
          clear hbel
          go_roundw
          case rel => exact ⟨k + 1, by omega, by go_num, unhide hnext, unhide HB2⟩
          case measure => simp [intOf]; omega
      · have hnext := hide (firstN_next (unhide HF) h3 (begins_no (fun h => hfit h.1)))
        go_wp2_with (go_at_call 62; refine (told_any _ _ (by omega) (by omega)).mono ?_; rintro e w' ⟨rfl, hbel⟩; rw [Int.toNat_natCast])
        have HB2 := hide (grew_call (unhide HB) hbel)
        clear hbel
        go_roundw
        case rel => exact ⟨k + 1, by omega, by go_num, unhide hnext, unhide HB2⟩
        case measure => simp [intOf]; omega
    · have hnone := hide (show firstN s = none by rw [unhide HF]; exact firstFrom_none s k _ (by omega))
      by_cases h3 : k ≤ 300
      · have hge : s.length ≤ k := by omega
        go_wp2_with fail
        go_ret3
        exact ⟨ret_ssb (by unfold firstF; rw [unhide hnone]; rfl) (by unfold firstR; rw [unhide hnone]; rfl) (by rw [unhide hnone]; rfl), unhide HB⟩
      · go_wp2_with fail
        go_ret3
        exact ⟨ret_ssb (by unfold firstF; rw [unhide hnone]; rfl) (by unfold firstR; rw [unhide hnone]; rfl) (by rw [unhide hnone]; rfl), unhide HB⟩

theorem infoS : (Tryz.prog.info? 9).map (fun i => (i.zero, i.size, i.bytes)) = some (some (.string ⟨#[]⟩), 1, 16) := by kernel_rfl
/-- texts as cells -/
def strs (l : List (List UInt8)) : List Value := l.map fun f => .string (bs f)
theorem strs_snoc (l : List (List UInt8)) (f : List UInt8) : strs (l ++ [f]) = strs l ++ [.string (bs f)] := by simp [strs]
theorem strs_length (l : List (List UInt8)) : (strs l).length = l.length := by simp [strs]
/-- the length of a text in a slot -/
def strLen : Value → Nat | .string b => b.size | _ => 0

theorem splitL_nil (m : Nat) : splitL m [] = some [] := by unfold splitL; rw [if_pos rfl]
theorem splitL_bad (m : Nat) {t : List UInt8} (ht : t ≠ []) (h : firstN t = none) : splitL m t = none := by
  unfold splitL; rw [if_neg ht, h]
theorem splitL_many {t : List UInt8} (ht : t ≠ []) : splitL 0 t = none := by
  unfold splitL; rw [if_neg ht]; cases firstN t <;> rfl
theorem splitL_step (m : Nat) {t : List UInt8} (ht : t ≠ []) {n : Nat} (h : firstN t = some n) : splitL (m + 1) t = (splitL m (restOf t n)).map (frameOf t n :: ·) := by
  conv => lhs; unfold splitL
  rw [if_neg ht, h]
theorem rest_lt {t : List UInt8} {n : Nat} (h : firstN t = some n) : (restOf t n).length < t.length := by
  have hb := begins_facts (firstFrom_begins _ _ _ _ h)
  have := toldL_pos n
  unfold restOf; simp; omega

/-- one frame more -/
theorem split_more {s t : List UInt8} {fr : List (List UInt8)} {n : Nat} (h : splitL 8 s = (splitL (8 - fr.length) t).map (fr ++ ·)) (hl : fr.length < 8) (ht : t ≠ []) (hn : firstN t = some n) :
    splitL 8 s = (splitL (8 - (fr ++ [frameOf t n]).length) (restOf t n)).map ((fr ++ [frameOf t n]) ++ ·) := by
  rw [h, show 8 - fr.length = (8 - (fr ++ [frameOf t n]).length) + 1 by simp; omega, splitL_step _ ht hn]
  cases splitL (8 - (fr ++ [frameOf t n]).length) (restOf t n) <;> simp

theorem own_more {B : Nat} {w wr w1 : World} {v v' : Value} {fr : List (List UInt8)} {f : List UInt8} {o : Obj} (hbel : Below B w wr) (hB : B ≤ wr.heap.size)
    (hown : wr.ownsRow B 9 1 v fr.length (strs fr)) (hown1 : w1.ownsRow B 9 1 v' (fr.length + 1) (strs fr ++ [.string (bs f)])) (hg : (wr.alloc o).grownBy w1 v.ownBlock) :
    w1.ownsRow B 9 1 v' (fr ++ [f]).length (strs (fr ++ [f])) ∧ Below B w w1 := by
  have hb1 : Below B w w1 := (hbel.alloc hB o).grown hg (by simp; omega) (fun k hk => (hown.lt k hk).1)
  refine ⟨?_, hb1⟩
  rw [strs_snoc]
  simpa using hown1

theorem own_keep {w w2 : World} {base : Nat} {e : TypeId} {size : Nat} {v : Value} {n : Nat} {xs : List Value} (h : w.ownsRow base e size v n xs) (hb : Below w.heap.size w w2) : w2.ownsRow base e size v n xs := by
  refine ⟨h.1, ?_⟩
  rcases h.2 with h2 | ⟨g, cap, cur, hv, hg, hh, r⟩
  · exact Or.inl h2
  · exact Or.inr ⟨g, cap, cur, hv, hg, by rw [hb.block g (Array.getElem?_eq_some_iff.1 hh).1]; exact hh, r⟩
theorem split_end {s : List UInt8} {fr : List (List UInt8)} (h : splitL 8 s = (splitL (8 - fr.length) []).map (fr ++ ·)) : splitE s = 0 ∧ splitR s = fr := by
  rw [splitL_nil] at h
  simp at h
  exact ⟨by unfold splitE; rw [h], by unfold splitR; rw [h]; rfl⟩
theorem split_fail {s T : List UInt8} {fr : List (List UInt8)} (h : splitL 8 s = (splitL (8 - fr.length) T).map (fr ++ ·)) (hT : splitL (8 - fr.length) T = none) : splitE s = 4 ∧ splitR s = [] := by
  rw [hT] at h
  simp at h
  exact ⟨by unfold splitE; rw [h], by unfold splitR; rw [h]; rfl⟩
theorem ret_vi {a b : Value} {c d : Int} (h : a = b) (g : c = d) : Ending.returned (.tuple #[a, .int .i64 c]) = .returned (.tuple #[b, .int .i64 d]) := by rw [h, g]
theorem own_slice {w : World} {base : Nat} {e : TypeId} {v : Value} {n : Nat} {xs : List Value} (h : w.ownsRow base e 1 v n xs) : ∃ ao cap, v = .slice ao n cap := by
  rcases h.2 with ⟨rfl, rfl⟩ | ⟨g, cap, cur, rfl, hb, hg, r⟩
  · exact ⟨none, 0, rfl⟩
  · exact ⟨some ⟨g, 0, none⟩, cap, rfl⟩

set_option maxRecDepth 100000 in
set_option maxHeartbeats 1000000 in
theorem rsplit_any (s : List UInt8) (w : World) (hs : s.length ≤ 9223372036854775807) :
    Calls Tryz.prog 38 #[.string (bs s)] w fun e w' => ∃ v, e = .returned (.tuple #[v, .int .i64 (splitE s)]) ∧ w'.ownsRow w.heap.size 9 1 v (splitR s).length (strs (splitR s)) ∧ Below w.heap.size w w' := by
  obtain ⟨i0, hi, hz0, hz1, hz2⟩ := info_parts infoS
  go_enter Tryz.func38, Tryz.ntmps38
  go_wp2_with fail
  go_loopw [0, 4] (fun t v wr => ∃ (T : List UInt8) (fr : List (List UInt8)), T.length ≤ s.length ∧ fr.length ≤ 8 ∧ t = .string (bs T) ∧ splitL 8 s = (splitL (8 - fr.length) T).map (fr ++ ·) ∧ wr.ownsRow w.heap.size 9 1 v fr.length (strs fr) ∧ Below w.heap.size w wr) (fun t _ _ => strLen t)
  case atStart =>
    refine ⟨s, [], Nat.le_refl _, by simp, rfl, ?_, World.ownsRow_nil _ _ _ _, Below.refl _ _⟩
    cases splitL 8 s <;> simp
  case round =>
    obtain ⟨T, fr, hT, hfr, rfl, hsplit, hown, hbel⟩ := hrel
    obtain ⟨ao, cap, rfl⟩ := own_slice hown
    have HS := hide hsplit
    have HO := hide hown
    have HB := hide hbel
    have hz : w.heap.size ≤ wr.heap.size := hbel.size
    clear hsplit hown hbel
    by_cases hnil : T = []
    · subst hnil
      obtain ⟨e1, e2⟩ := split_end (unhide HS)
      have E1 := hide e1
      have E2 := hide e2
      clear e1 e2
      go_wp2_with fail
      go_ret2
      refine ⟨_, ret_vi rfl (unhide E1).symm, ?_, unhide HB⟩
      rw [unhide E2]
      exact unhide HO
    · have hne : (T == []) = false := by rw [beq_eq_false_iff_ne]; exact hnil
      have Hnil := hide hnil
      clear hnil
      cases hfn : firstN T with
      | none =>
        obtain ⟨e1, e2⟩ := split_fail (unhide HS) (splitL_bad _ (unhide Hnil) hfn)
        have E1 := hide e1
        have E2 := hide e2
        clear e1 e2
        have hF := hide (first_any T)
        unfold firstF firstR at hF
        rw [hfn] at hF
        clear hfn
        go_wp2_with fail
        refine (unhide hF _ (by omega)).mono ?_
        rintro e w2 ⟨rfl, hb2⟩
        go_wp2_with fail
        go_ret2
        refine ⟨_, ret_vi rfl (unhide E1).symm, ?_, grew_call (unhide HB) hb2⟩
        rw [unhide E2]
        exact World.ownsRow_nil _ _ _ _
      | some n =>
        have hF := hide (first_any T)
        unfold firstF firstR at hF
        rw [hfn] at hF
        by_cases h8 : fr.length = 8
        · have h8b : ((fr.length : Int) == 8) = true := by simp; omega
          obtain ⟨e1, e2⟩ := split_fail (unhide HS) (by rw [h8]; exact splitL_many (unhide Hnil))
          have E1 := hide e1
          have E2 := hide e2
          have H8 := hide h8
          clear e1 e2 hfn h8
          go_wp2_with fail
          refine (unhide hF _ (by omega)).mono ?_
          rintro e w2 ⟨rfl, hb2⟩
          go_wp2_with fail
          go_ret2
          refine ⟨_, ret_vi rfl (unhide E1).symm, ?_, grew_call (unhide HB) hb2⟩
          rw [unhide E2]
          exact World.ownsRow_nil _ _ _ _
        · have h8b : ((fr.length : Int) == 8) = false := by simp; omega
          have hmore := hide (split_more (unhide HS) (by omega) (unhide Hnil) hfn)
          have hlt := hide (rest_lt hfn)
          have Hfn := hide hfn
          clear hfn
          go_wp2_with fail
          refine (unhide hF _ (by omega)).mono ?_
          rintro e w2 ⟨rfl, hb2⟩
          have hown := own_keep (unhide HO) hb2
          have HB2 := hide (grew_call (unhide HB) hb2)
          have hzw : w.heap.size ≤ w2.heap.size := Nat.le_trans hz hb2.size
          clear hb2 HO HB
          go_wp2_with (at_builtin; refine wpList_append_own _ rfl _ _ 31 rfl w.heap.size 9 i0 (.string ⟨#[]⟩) 1 16 Tryz.underlying31 hi hz0 hz1 hz2 rfl (by decide) _ _ _ rfl (hown.alloc _) ⟨w2.heap.size, 0, none⟩ 1 1 [.string (bs (frameOf T n))] rfl rfl ?c1 ?c2 ?c3 ?c4 ?c5 ?_)
          case c1 =>
            intro j u hj
            match j, hj with
            | 0, hj => simp at hj; subst hj; simp [Addr.add]
          case c2 => intro u hu; simp at hu; subst hu; rfl
          case c3 => unfold maxLen; omega
          case c4 => omega
          case c5 => simp; omega
          · intro v' w3 hown3 hgrow3 _
            obtain ⟨R1, R2⟩ := own_more (unhide HB2) hzw hown hown3 hgrow3
            have H1 := hide R1
            have H2 := hide R2
            clear hown hown3 hgrow3 HB2 R1 R2
            go_wp2
            go_roundw
            case rel => exact ⟨restOf T n, fr ++ [frameOf T n], by have := unhide hlt; omega, by simp; omega, rfl, unhide hmore, unhide H1, unhide H2⟩
            case measure =>
              have := unhide hlt
              simp [strLen, bs_size]; omega

end Go.Proofs.YtgpojbgjfibblabGreat.texts

namespace Go.Proofs.YtgpojbgjfibblabGreat.texts
set_option linter.unusedVariables false

theorem numOf_be (n k : Nat) (h : n < 256 ^ k) : numOf (be n k) = n := by
  induction k generalizing n with
  | zero => simp [be, numOf]; simp at h; omega
  | succ k ih =>
    rw [be, numOf_snoc, ih (n / 256) (by rw [Nat.pow_succ] at h; omega), UInt8.toNat_ofNat']
    omega
theorem be_inj {n m k : Nat} (hn : n < 256 ^ k) (hm : m < 256 ^ k) (h : be n k = be m k) : n = m := by
  rw [← numOf_be n k hn, h, numOf_be m k hm]

theorem slice_mid (a b c : List UInt8) (i j : Nat) (hi : a.length = i) (hj : a.length + b.length = j) : ((a ++ (b ++ c)).take j).drop i = b := by
  subst hi hj
  rw [← List.append_assoc, List.take_append_of_le_length (by simp)]
  rw [List.take_of_length_le (by simp)]
  simp

/-- the parts of a written text -/
theorem text_parts (p : Pk) : textL p = be p.src 4 ++ (be p.dst 4 ++ (be p.port 2 ++ (be p.seq 2 ++ (be p.time 4 ++ (be p.id 2 ++ (be p.flags 1 ++ (be p.body.length 1 ++ (p.body ++ be (plain.sumOf (bareL p)) 2)))))))) := by
  simp [textL, bareL, hdrL, headL, restL]

theorem text_length (p : Pk) : (textL p).length = 22 + p.body.length := by
  rw [text_parts]; simp [be_length]; omega

theorem at19_text (p : Pk) (h : p.body.length ≤ 100) : at19 (textL p) = p.body.length := by
  unfold at19
  have e : textL p = (be p.src 4 ++ (be p.dst 4 ++ (be p.port 2 ++ (be p.seq 2 ++ (be p.time 4 ++ (be p.id 2 ++ be p.flags 1)))))) ++ (be p.body.length 1 ++ (p.body ++ be (plain.sumOf (bareL p)) 2)) := by
    rw [text_parts]; simp
  rw [e, List.getElem?_append_right (by simp [be_length])]
  simp [be]
  omega

theorem seem_text (p : Pk) (hp : p.ok) (h : p.body.length ≤ 100) : seemP (textL p) = p := by
  obtain ⟨h1, h2, h3, h4, h5, h6, h7⟩ := hp
  have e := text_parts p
  have hn := at19_text p h
  have g1 : (textL p).take 10 = be p.src 4 ++ (be p.dst 4 ++ be p.port 2) := by
    rw [e]; rw [show be p.src 4 ++ (be p.dst 4 ++ (be p.port 2 ++ (be p.seq 2 ++ (be p.time 4 ++ (be p.id 2 ++ (be p.flags 1 ++ (be p.body.length 1 ++ (p.body ++ be (plain.sumOf (bareL p)) 2)))))))) = (be p.src 4 ++ (be p.dst 4 ++ be p.port 2)) ++ (be p.seq 2 ++ (be p.time 4 ++ (be p.id 2 ++ (be p.flags 1 ++ (be p.body.length 1 ++ (p.body ++ be (plain.sumOf (bareL p)) 2)))))) by simp]
    exact List.take_left' (by simp [be_length])
  have g2 : ((textL p).take 19).drop 10 = be p.seq 2 ++ (be p.time 4 ++ (be p.id 2 ++ be p.flags 1)) := by
    rw [e]
    have := slice_mid (be p.src 4 ++ (be p.dst 4 ++ be p.port 2)) (be p.seq 2 ++ (be p.time 4 ++ (be p.id 2 ++ be p.flags 1))) (be p.body.length 1 ++ (p.body ++ be (plain.sumOf (bareL p)) 2)) 10 19 (by simp [be_length]) (by simp [be_length])
    simpa using this
  have g3 : ((textL p).take (20 + p.body.length)).drop 20 = p.body := by
    rw [e]
    have := slice_mid (be p.src 4 ++ (be p.dst 4 ++ (be p.port 2 ++ (be p.seq 2 ++ (be p.time 4 ++ (be p.id 2 ++ (be p.flags 1 ++ be p.body.length 1))))))) p.body (be (plain.sumOf (bareL p)) 2) 20 (20 + p.body.length) (by simp [be_length]) (by simp [be_length])
    simpa using this
  unfold seemP
  rw [hn, g1, g2, g3]
  unfold withP
  have a1 : ((be p.src 4 ++ (be p.dst 4 ++ be p.port 2)).take 4) = be p.src 4 := List.take_left' (by simp [be_length])
  have a2 : ((be p.src 4 ++ (be p.dst 4 ++ be p.port 2)).take 8).drop 4 = be p.dst 4 := slice_mid _ _ _ 4 8 (by simp [be_length]) (by simp [be_length])
  have a3 : ((be p.src 4 ++ (be p.dst 4 ++ be p.port 2)).take 10).drop 8 = be p.port 2 := by
    have := slice_mid (be p.src 4 ++ be p.dst 4) (be p.port 2) [] 8 10 (by simp [be_length]) (by simp [be_length])
    simpa using this
  have b1 : ((be p.seq 2 ++ (be p.time 4 ++ (be p.id 2 ++ be p.flags 1))).take 2) = be p.seq 2 := List.take_left' (by simp [be_length])
  have b2 : ((be p.seq 2 ++ (be p.time 4 ++ (be p.id 2 ++ be p.flags 1))).take 6).drop 2 = be p.time 4 := slice_mid _ _ _ 2 6 (by simp [be_length]) (by simp [be_length])
  have b3 : ((be p.seq 2 ++ (be p.time 4 ++ (be p.id 2 ++ be p.flags 1))).take 8).drop 6 = be p.id 2 := by
    have := slice_mid (be p.seq 2 ++ be p.time 4) (be p.id 2) (be p.flags 1) 6 8 (by simp [be_length]) (by simp [be_length])
    simpa using this
  have b4 : ((be p.seq 2 ++ (be p.time 4 ++ (be p.id 2 ++ be p.flags 1))).take 9).drop 8 = be p.flags 1 := by
    have := slice_mid (be p.seq 2 ++ (be p.time 4 ++ be p.id 2)) (be p.flags 1) [] 8 9 (by simp [be_length]) (by simp [be_length])
    simpa using this
  rw [a1, a2, a3, b1, b2, b3, b4, numOf_be _ 4 h1, numOf_be _ 4 h2, numOf_be _ 2 h3, numOf_be _ 2 h4, numOf_be _ 4 h5, numOf_be _ 2 h6, numOf_be _ 1 h7]

/-- what is written is read back -/
theorem read_text (p : Pk) (hp : p.ok) (h : p.body.length ≤ 100) : readE (textL p) = 0 ∧ readR (textL p) = p := by
  have e : readE (textL p) = 0 := by
    unfold readE
    rw [text_length, at19_text p h, if_neg (by omega), if_neg (by omega), if_neg (by omega), seem_text p hp h, if_pos rfl]
  exact ⟨e, by unfold readR; rw [if_pos e, seem_text p hp h]⟩

theorem psum_set (l : List UInt8) (i : Nat) (v : UInt8) (k : Nat) (hi : i < l.length) (hk : i < k) :
    plain.psum (l.set i v) k + (if i % 2 = 0 then 256 else 1) * l[i].toNat = plain.psum l k + (if i % 2 = 0 then 256 else 1) * v.toNat := by
  induction k with
  | zero => omega
  | succ k ih =>
    simp only [plain.psum]
    by_cases h : i = k
    · subst h
      have e : plain.psum (l.set i v) i = plain.psum l i := by
        clear ih hk
        have : ∀ m, m ≤ i → plain.psum (l.set i v) m = plain.psum l m := by
          intro m
          induction m with
          | zero => intro _; rfl
          | succ m im =>
            intro hm
            simp only [plain.psum]
            rw [im (by omega), List.getElem?_set_ne (by omega)]
        exact this i (Nat.le_refl _)
      rw [e, List.getElem?_set_self hi, List.getElem?_eq_getElem hi]
      simp only [Option.getD_some]
      omega
    · have := ih (by omega)
      rw [List.getElem?_set_ne h]
      omega

theorem sum_turned (l : List UInt8) (i : Nat) (v : UInt8) (hi : i < l.length) (hv : v ≠ l[i]) : plain.sumOf (l.set i v) ≠ plain.sumOf l := by
  have h := psum_set l i v l.length hi hi
  have hx : v.toNat ≠ l[i].toNat := fun e => hv (UInt8.toNat_inj.1 e)
  have b1 := v.toNat_lt
  have b2 := l[i].toNat_lt
  unfold plain.sumOf
  rw [List.length_set]
  have f1 := plain.fold16_le (plain.psum (l.set i v) l.length)
  have f2 := plain.fold16_le (plain.psum l l.length)
  intro e
  have e2 : plain.fold16 (plain.psum (l.set i v) l.length) = plain.fold16 (plain.psum l l.length) := by omega
  unfold plain.fold16 at e2
  generalize plain.psum (l.set i v) l.length = A at *
  generalize plain.psum l l.length = B at *
  generalize v.toNat = x at *
  generalize l[i].toNat = y at *
  split at h <;> split at e2 <;> split at e2 <;> omega

/-- a text that Read takes: its last two bytes are the sum of what stands ahead of them -/
theorem taken (l : List UInt8) (hl : l.length = 22 + at19 l) (h : textL (seemP l) = l) : l.drop (20 + at19 l) = be (plain.sumOf (l.take (20 + at19 l))) 2 := by
  have hb : (seemP l).body.length = at19 l := by simp [seemP, withP]; omega
  have hlen : (bareL (seemP l)).length = 20 + at19 l := by rw [bareL_length, hb]
  have e1 : (textL (seemP l)).take (20 + at19 l) = bareL (seemP l) := by
    unfold textL
    exact List.take_left' hlen
  have e2 : (textL (seemP l)).drop (20 + at19 l) = be (plain.sumOf (bareL (seemP l))) 2 := by
    unfold textL
    exact List.drop_left' hlen
  rw [h] at e1 e2
  rw [e2, e1]

theorem sumOf_lt (l : List UInt8) : plain.sumOf l < 256 ^ 2 := by unfold plain.sumOf; omega

/-- with one byte turned a written text is refused -/
theorem read_turned (p : Pk) (hp : p.ok) (h : p.body.length ≤ 100) (i : Nat) (v : UInt8) (hi : i < (textL p).length) (hv : v ≠ (textL p)[i]) :
    readE ((textL p).set i v) = if i = 19 then 4 else 5 := by
  have hlen := text_length p
  have hat := at19_text p h
  by_cases h19 : i = 19
  · subst h19
    rw [if_pos rfl]
    have ha : at19 ((textL p).set 19 v) = v.toNat := by
      unfold at19; rw [List.getElem?_set_self hi]; rfl
    have ho : at19 (textL p) = (textL p)[19].toNat := by
      unfold at19; rw [List.getElem?_eq_getElem hi]; rfl
    have hx : v.toNat ≠ (textL p)[19].toNat := fun e => hv (UInt8.toNat_inj.1 e)
    unfold readE
    rw [List.length_set, hlen, ha, if_neg (by omega), if_pos (by omega)]
  · rw [if_neg h19]
    have ha : at19 ((textL p).set i v) = p.body.length := by
      rw [← hat]; unfold at19; rw [List.getElem?_set_ne h19]
    have hne : ¬ textL (seemP ((textL p).set i v)) = (textL p).set i v := by
      intro e
      have t1 := taken _ (by rw [List.length_set, hlen, ha]) e
      have t0 := taken (textL p) (by rw [hlen, hat]) (by rw [seem_text p hp h])
      rw [ha] at t1
      rw [hat] at t0
      by_cases hlt : i < 20 + p.body.length
      · rw [List.drop_set_of_lt hlt, t0, List.take_set] at t1
        have hlt2 : i < ((textL p).take (20 + p.body.length)).length := by simp; omega
        have := sum_turned ((textL p).take (20 + p.body.length)) i v hlt2 (by simpa using hv)
        exact this (be_inj (sumOf_lt _) (sumOf_lt _) t1).symm
      · have e3 : ((textL p).set i v).take (20 + p.body.length) = (textL p).take (20 + p.body.length) := by
          rw [List.take_set, List.set_eq_of_length_le (by simp; omega)]
        rw [e3, ← t0] at t1
        have t2 : ((textL p).set i v)[i]? = (textL p)[i]? := by
          have a1 := List.getElem?_drop (xs := (textL p).set i v) (i := 20 + p.body.length) (j := i - (20 + p.body.length))
          have a2 := List.getElem?_drop (xs := textL p) (i := 20 + p.body.length) (j := i - (20 + p.body.length))
          rw [t1, a2] at a1
          rw [show 20 + p.body.length + (i - (20 + p.body.length)) = i by omega] at a1
          exact a1.symm
        rw [List.getElem?_set_self hi, List.getElem?_eq_getElem hi] at t2
        exact hv (by simpa using t2)
    unfold readE
    rw [List.length_set, hlen, ha, if_neg (by omega), if_neg (by omega), if_neg (by omega), if_neg hne]

end Go.Proofs.YtgpojbgjfibblabGreat.texts

namespace Go.Proofs.YtgpojbgjfibblabGreat.texts
set_option linter.unusedVariables false

theorem be1 (n : Nat) : be n 1 = [UInt8.ofNat (n % 256)] := by simp [be]
theorem be2 (n : Nat) : be n 2 = [UInt8.ofNat (n / 256 % 256), UInt8.ofNat (n % 256)] := by simp [be]

/-- a text begins with at most one length -/
theorem told_one {s : List UInt8} {n m : Nat} (hn : n ≤ 300) (hm : m ≤ 300) (h1 : s.take (toldL n).length = toldL n) (h2 : s.take (toldL m).length = toldL m) : n = m := by
  have key : ∀ k, k ≤ 300 → s.take (toldL k).length = toldL k → ∃ b, s[0]? = some b ∧ (k < 128 → b.toNat = k) ∧ (128 ≤ k → b.toNat = 128 + k / 256 ∧ ∃ c, s[1]? = some c ∧ c.toNat = k % 256) := by
    intro k hk h
    by_cases hlt : k < 128
    · have e : toldL k = [UInt8.ofNat (k % 256)] := by unfold toldL; rw [if_pos hlt, be1]
      rw [e] at h
      have h0 := congrArg (fun l => l[0]?) h
      simp only [List.length_singleton, List.getElem?_take] at h0
      refine ⟨UInt8.ofNat (k % 256), by simpa using h0, fun _ => ?_, fun h' => by omega⟩
      rw [UInt8.toNat_ofNat']; omega
    · have e : toldL k = [UInt8.ofNat ((32768 + k) / 256 % 256), UInt8.ofNat ((32768 + k) % 256)] := by unfold toldL; rw [if_neg hlt, be2]
      rw [e] at h
      have h0 := congrArg (fun l => l[0]?) h
      have h1 := congrArg (fun l => l[1]?) h
      simp only [List.length_cons, List.length_nil, List.getElem?_take] at h0 h1
      refine ⟨UInt8.ofNat ((32768 + k) / 256 % 256), by simpa using h0, fun h' => by omega, fun _ => ⟨?_, UInt8.ofNat ((32768 + k) % 256), by simpa using h1, ?_⟩⟩
      · rw [UInt8.toNat_ofNat']; omega
      · rw [UInt8.toNat_ofNat']; omega
  obtain ⟨b, hb, hb1, hb2⟩ := key n hn h1
  obtain ⟨c, hc, hc1, hc2⟩ := key m hm h2
  have hbc : b = c := by rw [hb] at hc; simpa using hc
  subst hbc
  by_cases h3 : n < 128 <;> by_cases h4 : m < 128
  · have := hb1 h3; have := hc1 h4; omega
  · have := hb1 h3; have := (hc2 (by omega)).1; omega
  · have := hc1 h4; have := (hb2 (by omega)).1; omega
  · obtain ⟨e1, x, hx, ex⟩ := hb2 (by omega)
    obtain ⟨e2, y, hy, ey⟩ := hc2 (by omega)
    have hxy : x = y := by rw [hx] at hy; simpa using hy
    subst hxy
    omega

theorem firstFrom_find {s : List UInt8} {n : Nat} (hb : begins s n = true) (k m : Nat) (hk : k ≤ n) (hm : n < k + m) : firstFrom s k m = some n := by
  induction m generalizing k with
  | zero => omega
  | succ m ih =>
    rw [firstFrom]
    by_cases h : begins s k = true
    · rw [if_pos h]
      have f1 := begins_facts hb
      have f2 := begins_facts h
      rw [told_one f2.1 f1.1 f2.2.2.2 f1.2.2.2]
    · rw [if_neg h]
      have : k ≠ n := fun e => h (e ▸ hb)
      exact ih (k + 1) (by omega) (by omega)

/-- the first frame of what Join made -/
theorem firstN_join (f r : List UInt8) (hf : f.length ≤ 300) : firstN (toldL f.length ++ (f ++ r)) = some f.length ∧ frameOf (toldL f.length ++ (f ++ r)) f.length = f ∧ restOf (toldL f.length ++ (f ++ r)) f.length = r := by
  have hp := toldL_pos f.length
  refine ⟨firstFrom_find (begins_mk hf (by simp; omega) (by simp) (List.take_left' rfl)) 0 301 (by omega) (by omega), ?_, ?_⟩
  · unfold frameOf
    rw [List.drop_left' rfl, List.take_left' rfl]
  · unfold restOf
    rw [← List.append_assoc]
    exact List.drop_left' (by simp)

theorem split_join (m : List (List UInt8)) (k : Nat) (hk : m.length ≤ k) (h : ∀ f ∈ m, f.length ≤ 300) : splitL k (joinL m) = some m := by
  induction m generalizing k with
  | nil => exact splitL_nil k
  | cons f r ih =>
    obtain ⟨h1, h2, h3⟩ := firstN_join f (joinL r) (h f (by simp))
    have hne : joinL (f :: r) ≠ [] := by
      intro e
      have he := congrArg List.length e
      have hp := toldL_pos f.length
      simp only [joinL, List.length_append, List.length_nil] at he
      omega
    obtain ⟨k, rfl⟩ : ∃ j, k = j + 1 := ⟨k - 1, by simp at hk; omega⟩
    rw [splitL_step k hne (n := f.length) h1]
    simp only [joinL]
    rw [h2, h3, ih k (by simp at hk; omega) (fun g hg => h g (by simp [hg]))]
    rfl

theorem join_split (k : Nat) (s : List UInt8) (fr : List (List UInt8)) (h : splitL k s = some fr) : joinL fr = s ∧ fr.length ≤ k ∧ ∀ f ∈ fr, f.length ≤ 300 := by
  induction k generalizing s fr with
  | zero =>
    by_cases hs : s = []
    · subst hs; rw [splitL_nil] at h; simp at h; subst h; simp [joinL]
    · rw [splitL_many hs] at h; simp at h
  | succ k ih =>
    by_cases hs : s = []
    · subst hs; rw [splitL_nil] at h; simp at h; subst h; simp [joinL]
    · cases hn : firstN s with
      | none => rw [splitL_bad _ hs hn] at h; simp at h
      | some n =>
        rw [splitL_step k hs hn] at h
        cases hr : splitL k (restOf s n) with
        | none => rw [hr] at h; simp at h
        | some r =>
          rw [hr] at h
          simp at h
          subst h
          obtain ⟨e1, e2, e3⟩ := ih _ _ hr
          obtain ⟨b1, b2, b3, b4⟩ := begins_facts (firstFrom_begins _ _ _ _ hn)
          have hl : (frameOf s n).length = n := by unfold frameOf; simp; omega
          refine ⟨?_, by simp; omega, ?_⟩
          · simp only [joinL, hl, e1]
            rw [← b4]
            unfold frameOf restOf
            rw [← List.drop_drop, List.take_append_drop, List.take_append_drop]
          · intro f hf
            rcases List.mem_cons.1 hf with rfl | hf
            · omega
            · exact e3 f hf

/-- what Split gives of what Join made, and back -/
theorem again_one (m : List (List UInt8)) (hk : m.length ≤ 8) (h : ∀ f ∈ m, f.length ≤ 300) : joinE m = 0 ∧ joinR m = joinL m ∧ splitE (joinL m) = 0 ∧ splitR (joinL m) = m := by
  have e := split_join m 8 hk h
  have j := joinE_good (ls := m) (by omega) h
  exact ⟨j.1, j.2, by unfold splitE; rw [e], by unfold splitR; rw [e]; rfl⟩
theorem again_two (s : List UInt8) (h : splitE s = 0) : joinE (splitR s) = 0 ∧ joinR (splitR s) = s := by
  unfold splitE at h
  cases e : splitL 8 s with
  | none => rw [e] at h; simp at h
  | some fr =>
    obtain ⟨e1, e2, e3⟩ := join_split 8 s fr e
    have er : splitR s = fr := by unfold splitR; rw [e]; rfl
    have j := joinE_good (ls := fr) (by omega) e3
    rw [er]
    exact ⟨j.1, by rw [j.2, e1]⟩
theorem split_bad (s : List UInt8) (h : splitE s ≠ 0) : splitR s = [] := by
  unfold splitE at h
  unfold splitR
  cases e : splitL 8 s with
  | none => rfl
  | some fr => rw [e] at h; simp at h

end Go.Proofs.YtgpojbgjfibblabGreat.texts

namespace Go.Proofs.YtgpojbgjfibblabGreat.texts
set_option linter.unusedVariables false

/-- the length with which a text begins, and how many bytes tell it (0: none) -/
def lenOf : List UInt8 → Nat × Nat
  | [] => (0, 0)
  | [a] => if a.toNat < 128 then (a.toNat, 1) else (0, 0)
  | a :: b :: _ => if a.toNat < 128 then (a.toNat, 1) else if (a.toNat - 128) * 256 + b.toNat < 128 ∨ 300 < (a.toNat - 128) * 256 + b.toNat then (0, 0) else ((a.toNat - 128) * 256 + b.toNat, 2)

theorem told_bytes {s : List UInt8} (k : Nat) (hk : k ≤ 300) (h : s.take (toldL k).length = toldL k) : ∃ b, s[0]? = some b ∧ (k < 128 → b.toNat = k) ∧ (128 ≤ k → b.toNat = 128 + k / 256 ∧ ∃ c, s[1]? = some c ∧ c.toNat = k % 256) := by
  by_cases hlt : k < 128
  · have e : toldL k = [UInt8.ofNat (k % 256)] := by unfold toldL; rw [if_pos hlt, be1]
    rw [e] at h
    have h0 := congrArg (fun l => l[0]?) h
    simp only [List.length_singleton, List.getElem?_take] at h0
    refine ⟨UInt8.ofNat (k % 256), by simpa using h0, fun _ => ?_, fun h' => by omega⟩
    rw [UInt8.toNat_ofNat']; omega
  · have e : toldL k = [UInt8.ofNat ((32768 + k) / 256 % 256), UInt8.ofNat ((32768 + k) % 256)] := by unfold toldL; rw [if_neg hlt, be2]
    rw [e] at h
    have h0 := congrArg (fun l => l[0]?) h
    have h1 := congrArg (fun l => l[1]?) h
    simp only [List.length_cons, List.length_nil, List.getElem?_take] at h0 h1
    refine ⟨UInt8.ofNat ((32768 + k) / 256 % 256), by simpa using h0, fun h' => by omega, fun _ => ⟨?_, UInt8.ofNat ((32768 + k) % 256), by simpa using h1, ?_⟩⟩
    · rw [UInt8.toNat_ofNat']; omega
    · rw [UInt8.toNat_ofNat']; omega

theorem lenOf_some {s : List UInt8} {n : Nat} (h : firstN s = some n) : lenOf s = (n, (toldL n).length) ∧ (toldL n).length + n ≤ s.length := by
  have hb := begins_facts (firstFrom_begins _ _ _ _ h)
  refine ⟨?_, hb.2.2.1⟩
  obtain ⟨a, h0, h1, h2⟩ := told_bytes n hb.1 hb.2.2.2
  rw [toldL_length]
  match s, h0, h2 with
  | [x], h0, h2 =>
    simp at h0; subst h0
    by_cases hn : n < 128
    · have := h1 hn
      simp only [lenOf]
      rw [if_pos (by omega), if_pos hn, this]
    · obtain ⟨_, c, hc, _⟩ := h2 (by omega)
      simp at hc
  | x :: y :: r, h0, h2 =>
    simp at h0; subst h0
    by_cases hn : n < 128
    · have := h1 hn
      simp only [lenOf]
      rw [if_pos (by omega), if_pos hn, this]
    · obtain ⟨e1, c, hc, e2⟩ := h2 (by omega)
      simp at hc; subst hc
      simp only [lenOf]
      have hL : (x.toNat - 128) * 256 + y.toNat = n := by omega
      rw [if_neg (by omega), if_neg hn, hL, if_neg (by omega)]

theorem lenOf_back {s : List UInt8} {n z : Nat} (h : lenOf s = (n, z)) (hz : z ≠ 0) (hl : n + z ≤ s.length) : firstN s = some n ∧ (toldL n).length = z := by
  have one : ∀ (x : UInt8) (r : List UInt8), x.toNat < 128 → s = x :: r → n = x.toNat → z = 1 → firstN s = some n ∧ (toldL n).length = z := by
    intro x r hx hs hn hz1
    subst hz1
    have e : toldL n = [x] := by
      unfold toldL
      rw [if_pos (by omega), be1, hn, Nat.mod_eq_of_lt (by omega)]
      simp
    have hlen : (toldL n).length = 1 := by rw [e]; rfl
    refine ⟨firstFrom_find (begins_mk (by omega) (by omega) (by omega) ?_) 0 301 (by omega) (by omega), hlen⟩
    rw [hlen, e, hs]
    rfl
  match s, h with
  | [], h => simp [lenOf] at h; omega
  | [x], h =>
    simp only [lenOf] at h
    split at h
    · rename_i hx
      simp at h
      exact one x [] hx rfl h.1.symm h.2.symm
    · simp at h; omega
  | x :: y :: r, h =>
    simp only [lenOf] at h
    split at h
    · rename_i hx
      simp at h
      exact one x (y :: r) hx rfl h.1.symm h.2.symm
    · rename_i hx
      split at h
      · simp at h; omega
      · rename_i hL
        simp at h
        obtain ⟨h1, h2⟩ := h
        subst h2
        have hx2 := x.toNat_lt
        have hy2 := y.toNat_lt
        have e : toldL n = [x, y] := by
          unfold toldL
          rw [if_neg (by omega), be2, show (32768 + n) / 256 % 256 = x.toNat by omega, show (32768 + n) % 256 = y.toNat by omega]
          simp
        have hlen : (toldL n).length = 2 := by rw [e]; rfl
        refine ⟨firstFrom_find (begins_mk (by omega) (by omega) (by omega) ?_) 0 301 (by omega) (by omega), hlen⟩
        rw [hlen, e]
        rfl

theorem lenOf_none {s : List UInt8} (h : (lenOf s).2 = 0 ∨ s.length < (lenOf s).1 + (lenOf s).2) : firstN s = none := by
  cases e : firstN s with
  | none => rfl
  | some n =>
    obtain ⟨h1, h2⟩ := lenOf_some e
    have hp := toldL_pos n
    rw [h1] at h
    simp only at h
    omega

end Go.Proofs.YtgpojbgjfibblabGreat.texts

namespace Go.Proofs.YtgpojbgjfibblabGreat.texts
open Go.RowKit
set_option linter.unusedVariables false
attribute [local go_sem ↓] Go.wp_at_zero Go.wp_at_succ
attribute [local go_sem] bs_size bs_append List.length_append bs_list bs_toList

set_option maxRecDepth 100000 in
set_option maxHeartbeats 400000 in
theorem lengthText_any (n : Int) (w : World) (h0 : 0 ≤ n) (h1 : n ≤ 32767) :
    Calls Tryz.prog 117 #[.int .i64 n] w fun e w' => e = .returned (.string (bs (toldL n.toNat))) ∧ Below w.heap.size w w' := by
  obtain ⟨n, rfl⟩ := Int.eq_ofNat_of_zero_le h0
  rw [Int.toNat_natCast]
  by_cases h : n < 128
  · have e := hide (show toldL n = be n 1 by unfold toldL; rw [if_pos h])
    have hw : IntKind.u8.wrap (n : Int) = n := wrap8 (by omega)
    go_enter Tryz.func117, Tryz.ntmps117
    go_wp2_with (go_at_call 105; refine (text8_any _ _ (by omega) (by omega)).mono ?_; rintro e w' ⟨rfl, hbel⟩)
    go_ret
    exact ⟨ret_str (by rw [unhide e]), hbel⟩
  · have e := hide (show toldL n = be (128 + n / 256) 1 ++ be (n % 256) 1 by
      unfold toldL; rw [if_neg h, be2, be1, be1, show (32768 + n) / 256 % 256 = (128 + n / 256) % 256 by omega, show (32768 + n) % 256 = n % 256 % 256 by omega]; rfl)
    have hw : IntKind.u8.wrap (128 + (n : Int) / 256) = 128 + (n : Int) / 256 := by rw [IntKind.wrap_u8']; omega
    have hw2 : IntKind.u8.wrap ((n : Int) % 256) = (n : Int) % 256 := by rw [IntKind.wrap_u8']; omega
    go_enter Tryz.func117, Tryz.ntmps117
    go_wp2_with (go_at_call 105; refine (text8_any _ _ (by omega) (by omega)).mono ?_; rintro e w' ⟨rfl, hbel⟩)
    go_ret
    rename_i wA hA hno
    exact ⟨ret_str (by rw [unhide e]), grew_call hA hbel⟩

set_option maxHeartbeats 1000000 in
set_option maxRecDepth 100000 in
theorem bjoin_any (w : World) (v : Value) (ls : List (List UInt8)) (ao : Option Addr) (b off cap : Nat) (hT : TextsAt w v ls ao b off cap) (hmax : ls.length ≤ 9223372036854775807) :
    Calls Tryz.prog 97 #[v] w fun e w' => e = .returned (.tuple #[.string (bs (joinR ls)), .int .i64 (joinE ls)]) ∧ Below w.heap.size w w' := by
  obtain ⟨rfl, haddr, hcell⟩ := hT
  by_cases hmany : 8 < ls.length
  · have e := hide (joinE_many hmany)
    clear haddr hcell
    go_enter Tryz.func97, Tryz.ntmps97
    go_wp2_with fail
    go_ret2
    exact ⟨ret_si' (by rw [(unhide e).2]; rfl) (unhide e).1.symm, Below.refl _ _⟩
  · have HA := hide haddr
    have HC := hide hcell
    have HT : Hid (TextsAt w (.slice ao ls.length cap) ls ao b off cap) := ⟨rfl, haddr, hcell⟩
    clear haddr hcell
    go_enter Tryz.func97, Tryz.ntmps97
    go_wp2_with fail
    go_loopw [4, 5] (fun s i wr => ∃ k : Nat, k ≤ ls.length ∧ i = .int .i64 k ∧ s = .string (bs (joinL (ls.take k))) ∧ (∀ f ∈ ls.take k, f.length ≤ 300) ∧ Below w.heap.size w wr) (fun _ i _ => ls.length - (intOf i).toNat)
    case atStart => exact ⟨0, Nat.zero_le _, rfl, rfl, by simp, Below.refl _ _⟩
    case round =>
      obtain ⟨k, hk, rfl, rfl, hsh, hbel⟩ := hrel
      have Hsh := hide hsh
      have HB := hide hbel
      clear hsh hbel
      by_cases hlt : k < ls.length
      · obtain rfl := unhide HA (by omega)
        have hc := ((unhide HT).keep (unhide HB)).cell k hlt
        have hnext := hide (take_next hlt)
        have hJ := joinL_length (ls.take k) (unhide Hsh)
        have hJ2 : (ls.take k).length ≤ 8 := by simp; omega
        by_cases hlong : 300 < (ls[k]?.getD []).length
        · have e := hide (joinE_long hmany hlt hlong)
          generalize hf : ls[k]?.getD [] = f at *
          clear hf
          go_wp2_with fail
          go_ret2
          exact ⟨ret_si' (by rw [(unhide e).2]; rfl) (unhide e).1.symm, unhide HB⟩
        · generalize hf : ls[k]?.getD [] = f at *
          have Hf := hide hf
          have hT2 := toldL_le f.length
          generalize hA : joinL (ls.take k) = A at *
          have HAA := hide hA
          clear hf hA
          have hA2 : A.length ≤ 2416 := by omega
          have hn1 : ¬ 9223372036854775807 < A.length + (toldL f.length).length := by omega
          have hn2 : ¬ 9223372036854775807 < A.length + (toldL f.length).length + f.length := by omega
          have hn3 : ¬ 9223372036854775807 < A.length + ((toldL f.length).length + f.length) := by omega
          have hk0 : (0 : Int) ≤ (k : Int) := by omega
          have hk1 : (k : Int) < (ls.length : Int) := by omega
          go_wp2_with fail
          go_region_held3 (fun w' => w'.cell? ⟨b, off + k, none⟩ = some (.string (bs f)) ∧ Below w.heap.size w w')
            (first | exact ⟨hc, (unhide HB).drew⟩ | (go_split_ands; exact ⟨keep_cell (by assumption) hbel, grew_call (by assumption) hbel⟩))
            ((go_at_call 117; refine (lengthText_any _ _ (by omega) (by omega)).mono ?_; rintro e w' ⟨rfl, hbel⟩))
          all_goals go_split_ands
          all_goals
            have HB' := hide (show Below w.heap.size w w' by assumption)
            go_wp2
            go_roundw
            case rel =>
              refine ⟨k + 1, by omega, by go_num, ?_, ?_, unhide HB'⟩
              · rw [unhide hnext, joinL_snoc, unhide HAA]
              · rw [unhide hnext]
                intro g hg
                rcases List.mem_append.1 hg with hg | hg
                · exact unhide Hsh g hg
                · simp at hg; subst hg; omega
            case measure => simp [intOf]; omega
      · have e : k = ls.length := by omega
        subst e
        have Hsh2 := unhide Hsh
        rw [List.take_length] at Hsh2
        have e := hide (joinE_good hmany Hsh2)
        clear Hsh2
        go_wp2_with fail
        go_ret2
        exact ⟨ret_si' (by rw [(unhide e).2, List.take_length]) (unhide e).1.symm, unhide HB⟩

set_option maxHeartbeats 400000 in
theorem gjoin_any (w : World) (v : Value) (ls : List (List UInt8)) (ao : Option Addr) (b off cap : Nat) (hT : TextsAt w v ls ao b off cap) (hmax : ls.length ≤ 9223372036854775807) :
    Calls Tryz.prog 61 #[v] w fun e w' => e = .returned (.tuple #[.string (bs (joinR ls)), .int .i64 (joinE ls)]) ∧ Below w.heap.size w w' := by
  have H := hide (bjoin_any w v ls ao b off cap hT hmax)
  obtain rfl := hT.form
  clear hT
  go_enter Tryz.func61, Tryz.ntmps61
  go_wp2_with (go_at_call 97; refine (unhide H).mono ?_; rintro e w2 ⟨rfl, hb2⟩)
  go_ret2
  exact ⟨rfl, hb2⟩

/-- the length with which a text begins -/
theorem byte0 (l : List UInt8) (h : 0 < l.length) : ((bs l)[0]'(by rw [bs_size]; exact h)).toNat = l[0].toNat := rfl
theorem byte1 (l : List UInt8) (h : 1 < l.length) : ((bs l)[1]'(by rw [bs_size]; exact h)).toNat = l[1].toNat := rfl

theorem ret_ii {a b c d : Int} (h : a = b) (g : c = d) : Ending.returned (.tuple #[.int .i64 a, .int .i64 c]) = .returned (.tuple #[.int .i64 b, .int .i64 d]) := by rw [h, g]

theorem lenOf_low {s : List UInt8} (h : 0 < s.length) (ha : s[0].toNat < 128) : lenOf s = (s[0].toNat, 1) := by
  match s, h with
  | [x], _ => simp only [lenOf]; rw [if_pos (by simpa using ha)]; rfl
  | x :: y :: r, _ => simp only [lenOf]; rw [if_pos (by simpa using ha)]; rfl
theorem lenOf_lone {s : List UInt8} (h : s.length = 1) (ha : ¬ s[0].toNat < 128) : lenOf s = (0, 0) := by
  match s, h with
  | [x], _ => simp only [lenOf]; rw [if_neg (by simpa using ha)]
theorem lenOf_two {s : List UInt8} (h : 1 < s.length) (ha : ¬ s[0].toNat < 128) : lenOf s = if (s[0].toNat - 128) * 256 + s[1].toNat < 128 ∨ 300 < (s[0].toNat - 128) * 256 + s[1].toNat then (0, 0) else ((s[0].toNat - 128) * 256 + s[1].toNat, 2) := by
  match s, h with
  | x :: y :: r, _ => simp only [lenOf]; rw [if_neg (by simpa using ha)]; rfl

set_option maxHeartbeats 1000000 in
set_option maxRecDepth 100000 in
theorem readLength_any (s : List UInt8) (w : World) (hs : s.length ≤ 9223372036854775807) :
    Calls Tryz.prog 118 #[.string (bs s)] w fun e w' => e = .returned (.tuple #[.int .i64 ((lenOf s).1 : Nat), .int .i64 ((lenOf s).2 : Nat)]) ∧ Below w.heap.size w w' := by
  by_cases h0 : s.length = 0
  · have e := hide (show lenOf s = (0, 0) by rw [List.length_eq_zero_iff.1 h0]; rfl)
    go_enter Tryz.func118, Tryz.ntmps118
    go_wp2_with fail
    go_ret2
    exact ⟨by rw [unhide e]; rfl, Below.refl _ _⟩
  · have hp : 0 < s.length := by omega
    have hq : 0 < (bs s).size := by rw [bs_size]; exact hp
    have b0 := byte0 s hp
    have l0 := s[0].toNat_lt
    have hne : ((s.length : Int) == 0) = false := beq_eq_false_iff_ne.2 (by omega)
    by_cases ha : s[0].toNat < 128
    · have e := hide (lenOf_low hp ha)
      generalize s[0].toNat = A at *
      go_enter Tryz.func118, Tryz.ntmps118
      go_wp2_with fail
      go_ret2
      exact ⟨by rw [unhide e]; rfl, Below.refl _ _⟩
    · by_cases h1 : s.length = 1
      · have e := hide (lenOf_lone h1 ha)
        have hne1 : ((s.length : Int) == 1) = true := by simp; omega
        generalize s[0].toNat = A at *
        go_enter Tryz.func118, Tryz.ntmps118
        go_wp2_with fail
        go_ret2
        exact ⟨by rw [unhide e]; rfl, Below.refl _ _⟩
      · have hp1 : 1 < s.length := by omega
        have hq1 : 1 < (bs s).size := by rw [bs_size]; exact hp1
        have b1 := byte1 s hp1
        have l1 := s[1].toNat_lt
        have hne1 : ((s.length : Int) == 1) = false := beq_eq_false_iff_ne.2 (by omega)
        have e := hide (lenOf_two hp1 ha)
        generalize s[0].toNat = A at *
        generalize s[1].toNat = C at *
        have hw : IntKind.u8.wrap ((A : Int) - 128) = (A : Int) - 128 := by rw [IntKind.wrap_u8']; omega
        by_cases hL : (A - 128) * 256 + C < 128
        · go_enter Tryz.func118, Tryz.ntmps118
          go_wp2_with fail
          go_quiet (fail)
          all_goals go_wp2_with fail
          all_goals go_ret2
          all_goals exact ⟨by rw [unhide e, if_pos (Or.inl hL)]; rfl, below_drewN (Below.refl _ _) _⟩
        · by_cases hL2 : 300 < (A - 128) * 256 + C
          · go_enter Tryz.func118, Tryz.ntmps118
            go_wp2_with fail
            go_quiet (fail)
            all_goals go_wp2_with fail
            all_goals go_ret2
            all_goals exact ⟨by rw [unhide e, if_pos (Or.inr hL2)]; rfl, below_drewN (Below.refl _ _) _⟩
          · go_enter Tryz.func118, Tryz.ntmps118
            go_wp2_with fail
            go_quiet (fail)
            all_goals go_wp2_with fail
            all_goals go_ret2
            all_goals refine ⟨?_, below_drewN (Below.refl _ _) _⟩
            all_goals rw [unhide e, if_neg (by omega)]
            all_goals exact ret_ii (by simp only; omega) rfl

end Go.Proofs.YtgpojbgjfibblabGreat.texts

namespace Go.Proofs.YtgpojbgjfibblabGreat.texts
open Go.RowKit
set_option linter.unusedVariables false
attribute [local go_sem ↓] Go.wp_at_zero Go.wp_at_succ
attribute [local go_sem] bs_size bs_append List.length_append bs_list bs_toList bs_extract

set_option maxRecDepth 100000 in
set_option maxHeartbeats 1000000 in
theorem cutFrame_any (s : List UInt8) (w : World) (hs : s.length ≤ 9223372036854775807) :
    Calls Tryz.prog 98 #[.string (bs s)] w fun e w' => e = .returned (.tuple #[.string (bs (firstF s)), .string (bs (firstR s)), .bool (firstN s).isSome]) ∧ Below w.heap.size w w' := by
  have hR := hide (readLength_any s w hs)
  have hb1 : (lenOf s).1 ≤ 300 := by
    match s with
    | [] => simp [lenOf]
    | [x] => simp only [lenOf]; split <;> simp; omega
    | x :: y :: r =>
      simp only [lenOf]
      split
      · simp; omega
      · split <;> simp; omega
  have hb2 : (lenOf s).2 ≤ 2 := by
    match s with
    | [] => simp [lenOf]
    | [x] => simp only [lenOf]; split <;> simp
    | x :: y :: r =>
      simp only [lenOf]
      split
      · simp
      · split <;> simp
  by_cases h0 : (lenOf s).2 = 0
  · have hN := hide (lenOf_none (Or.inl h0))
    generalize (lenOf s).1 = n at *
    generalize (lenOf s).2 = z at *
    have hz : ((z : Int) == 0) = true := by simp; omega
    go_enter Tryz.func98, Tryz.ntmps98
    go_wp2_with (go_at_call 118; refine (unhide hR).mono ?_; rintro e w2 ⟨rfl, hbel⟩)
    go_ret3
    exact ⟨ret_ssb (by unfold firstF; rw [unhide hN]; rfl) (by unfold firstR; rw [unhide hN]; rfl) (by rw [unhide hN]; rfl), hbel⟩
  · by_cases h1 : s.length < (lenOf s).1 + (lenOf s).2
    · have hN := hide (lenOf_none (Or.inr h1))
      generalize (lenOf s).1 = n at *
      generalize (lenOf s).2 = z at *
      have hz : ((z : Int) == 0) = false := beq_eq_false_iff_ne.2 (by omega)
      go_enter Tryz.func98, Tryz.ntmps98
      go_wp2_with (go_at_call 118; refine (unhide hR).mono ?_; rintro e w2 ⟨rfl, hbel⟩)
      go_ret3
      exact ⟨ret_ssb (by unfold firstF; rw [unhide hN]; rfl) (by unfold firstR; rw [unhide hN]; rfl) (by rw [unhide hN]; rfl), hbel⟩
    · obtain ⟨hf, hz1⟩ := lenOf_back (s := s) (n := (lenOf s).1) (z := (lenOf s).2) rfl h0 (by omega)
      have hN := hide hf
      have hZ := hide hz1
      clear hf hz1
      generalize (lenOf s).1 = n at *
      generalize (lenOf s).2 = z at *
      have hz : ((z : Int) == 0) = false := beq_eq_false_iff_ne.2 (by omega)
      have hi1 : (0 : Int) ≤ (z : Int) := by omega
      have hi2 : (z : Int) ≤ (s.length : Int) := by omega
      have hi3 : (z : Int) ≤ (z : Int) + (n : Int) := by omega
      have hi4 : (z : Int) + (n : Int) ≤ (s.length : Int) := by omega
      have hi5 : (0 : Int) ≤ (z : Int) + (n : Int) := by omega
      have hi6 : IntKind.i64.wrap ((z : Int) + (n : Int)) = (z : Int) + (n : Int) := wrap_id (by omega) (by omega)
      go_enter Tryz.func98, Tryz.ntmps98
      go_wp2_with (go_at_call 118; refine (unhide hR).mono ?_; rintro e w2 ⟨rfl, hbel⟩)
      go_quiet (fail)
      all_goals go_wp2
      all_goals go_ret3
      all_goals refine ⟨ret_ssb ?_ ?_ (by rw [unhide hN]; rfl), below_drewN hbel _⟩
      all_goals have hc := frame_cut (unhide hN)
      all_goals rw [unhide hZ] at hc
      all_goals first | exact hc | (unfold firstR; rw [unhide hN]; simp only [restOf]; rw [unhide hZ])

theorem text_pos {t : List UInt8} (h : t ≠ []) : (t == []) = false := by rw [beq_eq_false_iff_ne]; exact h

set_option maxRecDepth 100000 in
set_option maxHeartbeats 1000000 in
theorem bsplit_any (s : List UInt8) (w : World) (hs : s.length ≤ 9223372036854775807) :
    Calls Tryz.prog 63 #[.string (bs s)] w fun e w' => ∃ v, e = .returned (.tuple #[v, .int .i64 (splitE s)]) ∧ w'.ownsRow w.heap.size 9 1 v (splitR s).length (strs (splitR s)) ∧ Below w.heap.size w w' := by
  obtain ⟨i0, hi, hz0, hz1, hz2⟩ := info_parts infoS
  go_enter Tryz.func63, Tryz.ntmps63
  go_wp2_with fail
  go_loopw [0, 4] (fun t v wr => ∃ (T : List UInt8) (fr : List (List UInt8)), T.length ≤ s.length ∧ fr.length ≤ 8 ∧ t = .string (bs T) ∧ splitL 8 s = (splitL (8 - fr.length) T).map (fr ++ ·) ∧ wr.ownsRow w.heap.size 9 1 v fr.length (strs fr) ∧ Below w.heap.size w wr) (fun t _ _ => strLen t)
  case atStart =>
    refine ⟨s, [], Nat.le_refl _, by simp, rfl, ?_, World.ownsRow_nil _ _ _ _, Below.refl _ _⟩
    cases splitL 8 s <;> simp
  case round =>
    obtain ⟨T, fr, hT, hfr, rfl, hsplit, hown, hbel⟩ := hrel
    obtain ⟨ao, cap, rfl⟩ := own_slice hown
    have HS := hide hsplit
    have HO := hide hown
    have HB := hide hbel
    have hz : w.heap.size ≤ wr.heap.size := hbel.size
    clear hsplit hown hbel
    by_cases hnil : T = []
    · subst hnil
      obtain ⟨e1, e2⟩ := split_end (unhide HS)
      have E1 := hide e1
      have E2 := hide e2
      clear e1 e2
      by_cases h8 : fr.length < 8
      · go_wp2_with fail
        go_ret2
        refine ⟨_, ret_vi rfl (unhide E1).symm, ?_, unhide HB⟩
        rw [unhide E2]
        exact unhide HO
      · go_wp2_with fail
        go_ret2
        refine ⟨_, ret_vi rfl (unhide E1).symm, ?_, unhide HB⟩
        rw [unhide E2]
        exact unhide HO
    · have hne : (T == []) = false := by rw [beq_eq_false_iff_ne]; exact hnil
      have Hnil := hide hnil
      clear hnil
      by_cases h8 : fr.length < 8
      · cases hfn : firstN T with
        | none =>
          obtain ⟨e1, e2⟩ := split_fail (unhide HS) (splitL_bad _ (unhide Hnil) hfn)
          have E1 := hide e1
          have E2 := hide e2
          clear e1 e2
          have hF := hide (cutFrame_any T)
          unfold firstF firstR at hF
          rw [hfn] at hF
          clear hfn
          go_wp2_with fail
          refine (unhide hF _ (by omega)).mono ?_
          rintro e w2 ⟨rfl, hb2⟩
          go_wp2_with fail
          go_ret2
          refine ⟨_, ret_vi rfl (unhide E1).symm, ?_, grew_call (unhide HB) hb2⟩
          rw [unhide E2]
          exact World.ownsRow_nil _ _ _ _
        | some n =>
          have hF := hide (cutFrame_any T)
          unfold firstF firstR at hF
          rw [hfn] at hF
          have hmore := hide (split_more (unhide HS) (by omega) (unhide Hnil) hfn)
          have hlt := hide (rest_lt hfn)
          have Hfn := hide hfn
          clear hfn
          go_wp2_with fail
          refine (unhide hF _ (by omega)).mono ?_
          rintro e w2 ⟨rfl, hb2⟩
          have hown := own_keep (unhide HO) hb2
          have HB2 := hide (grew_call (unhide HB) hb2)
          have hzw : w.heap.size ≤ w2.heap.size := Nat.le_trans hz hb2.size
          clear hb2 HO HB
          go_wp2_with (at_builtin; refine wpList_append_own _ rfl _ _ 31 rfl w.heap.size 9 i0 (.string ⟨#[]⟩) 1 16 Tryz.underlying31 hi hz0 hz1 hz2 rfl (by decide) _ _ _ rfl (hown.alloc _) ⟨w2.heap.size, 0, none⟩ 1 1 [.string (bs (frameOf T n))] rfl rfl ?c1 ?c2 ?c3 ?c4 ?c5 ?_)
          case c1 =>
            intro j u hj
            match j, hj with
            | 0, hj => simp at hj; subst hj; simp [Addr.add]
          case c2 => intro u hu; simp at hu; subst hu; rfl
          case c3 => unfold maxLen; omega
          case c4 => omega
          case c5 => simp; omega
          · intro v' w3 hown3 hgrow3 _
            obtain ⟨R1, R2⟩ := own_more (unhide HB2) hzw hown hown3 hgrow3
            have H1 := hide R1
            have H2 := hide R2
            clear hown hown3 hgrow3 HB2 R1 R2
            go_wp2
            go_roundw
            case rel => exact ⟨restOf T n, fr ++ [frameOf T n], by have := unhide hlt; omega, by simp; omega, rfl, unhide hmore, unhide H1, unhide H2⟩
            case measure =>
              have := unhide hlt
              simp [strLen, bs_size]; omega
      · obtain ⟨e1, e2⟩ := split_fail (unhide HS) (by rw [show fr.length = 8 by omega]; exact splitL_many (unhide Hnil))
        have E1 := hide e1
        have E2 := hide e2
        clear e1 e2
        go_wp2_with fail
        go_ret2
        refine ⟨_, ret_vi rfl (unhide E1).symm, ?_, unhide HB⟩
        rw [unhide E2]
        exact World.ownsRow_nil _ _ _ _

set_option maxHeartbeats 400000 in
theorem gsplit_any (s : List UInt8) (w : World) (hs : s.length ≤ 9223372036854775807) :
    Calls Tryz.prog 37 #[.string (bs s)] w fun e w' => ∃ v, e = .returned (.tuple #[v, .int .i64 (splitE s)]) ∧ w'.ownsRow w.heap.size 9 1 v (splitR s).length (strs (splitR s)) ∧ Below w.heap.size w w' := by
  have H := hide (bsplit_any s w hs)
  go_enter Tryz.func37, Tryz.ntmps37
  go_wp2_with fail
  refine (unhide H).mono ?_
  rintro e w2 ⟨v, rfl, hown, hb2⟩
  obtain ⟨ao, cap, rfl⟩ := own_slice hown
  have HO := hide hown
  clear hown
  go_wp2_with fail
  go_ret2
  exact ⟨_, rfl, unhide HO, hb2⟩

end Go.Proofs.YtgpojbgjfibblabGreat.texts

namespace Go.Proofs.YtgpojbgjfibblabGreat.texts
open Go.RowKit
set_option linter.unusedVariables false
attribute [local go_sem] bs_size bs_append List.length_append bs_list bs_toList bs_extract

/-- what a call owns reads as a list of texts -/
theorem own_texts {w : World} {base : Nat} {v : Value} {ls : List (List UInt8)} (h : w.ownsRow base 9 1 v ls.length (strs ls)) : ∃ ao b cap, TextsAt w v ls ao b 0 cap := by
  rcases h.2 with ⟨rfl, hn⟩ | ⟨g, cap, cur, rfl, hb, hg, hnc, hcm, hcs, htake⟩
  · refine ⟨none, 0, 0, by rw [hn], fun h0 => by omega, fun i hi => by omega⟩
  · refine ⟨some ⟨g, 0, none⟩, g, cap, rfl, fun _ => rfl, fun i hi => ?_⟩
    rw [Nat.zero_add, h.cellAt i (by omega)]
    simp [strs, List.getElem?_map, List.getElem?_eq_getElem hi]

/-- frames cut to their bound, at most k -/
def cutL (ls : List (List UInt8)) (k : Nat) : List (List UInt8) := (ls.take k).map (·.take 300)
theorem cutL_length (ls : List (List UInt8)) (k : Nat) (h : k ≤ ls.length) : (cutL ls k).length = k := by simp [cutL]; omega
theorem cutL_succ (ls : List (List UInt8)) (k : Nat) (h : k < ls.length) : cutL ls (k + 1) = cutL ls k ++ [(ls[k]?.getD []).take 300] := by
  unfold cutL
  rw [List.take_succ_eq_append_getElem h, List.getElem?_eq_getElem h, List.map_append]
  rfl
theorem cutL_short (ls : List (List UInt8)) (k : Nat) : ∀ f ∈ cutL ls k, f.length ≤ 300 := by
  intro f hf
  simp only [cutL, List.mem_map] at hf
  obtain ⟨g, _, rfl⟩ := hf
  simp; omega

theorem lit_texts (w : World) : TextsAt (w.alloc (.cells #[.string ⟨#[97]⟩, .string ⟨#[]⟩] 9)) (.slice (some ⟨w.heap.size, 0, none⟩) 2 2) [[97], []] (some ⟨w.heap.size, 0, none⟩) w.heap.size 0 2 := by
  refine ⟨rfl, fun _ => rfl, fun i hi => ?_⟩
  rw [Nat.zero_add, block_cell (heap_alloc_new w _) i]
  match i, hi with
  | 0, _ => rfl
  | 1, _ => rfl
theorem lit_joinR : joinR [[97], []] = [1, 97, 0] := by decide
theorem lit_joinE : joinE [[97], []] = 0 := by decide
theorem split_le (s : List UInt8) : (splitR s).length ≤ 8 := by
  unfold splitR
  cases e : splitL 8 s with
  | none => simp
  | some fr => exact (join_split 8 s fr e).2.1

end Go.Proofs.YtgpojbgjfibblabGreat.texts

namespace Go.Proofs.YtgpojbgjfibblabGreat.texts
open Go.RowKit
set_option linter.unusedVariables false
attribute [local go_sem] bs_size bs_append List.length_append bs_list bs_toList bs_extract

set_option maxRecDepth 100000 in
set_option maxHeartbeats 1000000 in
theorem copied_any (w : World) (v : Value) (ls : List (List UInt8)) (ao : Option Addr) (b off cap : Nat) (hT : TextsAt w v ls ao b off cap) (hmax : ls.length ≤ 1048576) :
    Calls Tryz.prog 60 #[v] w fun e w' => ∃ v', e = .returned v' ∧ w'.ownsRow w.heap.size 9 1 v' ls.length (strs ls) ∧ Below w.heap.size w w' := by
  obtain ⟨i0, hi, hz0, hz1, hz2⟩ := info_parts infoS
  obtain ⟨rfl, haddr, hcell⟩ := hT
  have HA := hide haddr
  have HT : Hid (TextsAt w (.slice ao ls.length cap) ls ao b off cap) := ⟨rfl, haddr, hcell⟩
  clear haddr hcell
  go_enter Tryz.func60, Tryz.ntmps60
  go_wp2_with fail
  go_loopw [3, 4] (fun m i wr => ∃ k : Nat, k ≤ ls.length ∧ i = .int .i64 k ∧ wr.ownsRow w.heap.size 9 1 m (ls.take k).length (strs (ls.take k)) ∧ Below w.heap.size w wr) (fun _ i _ => ls.length - (intOf i).toNat)
  case atStart => exact ⟨0, by omega, rfl, World.ownsRow_nil _ _ _ _, Below.refl _ _⟩
  case round =>
    obtain ⟨k, hk, rfl, hown, hbel⟩ := hrel
    by_cases hlt : k < ls.length
    · obtain rfl := unhide HA (by omega)
      have hc := ((unhide HT).keep hbel).cell k hlt
      have hnext := hide (take_next hlt)
      have hcl : (ls.take k).length ≤ 1048576 := by simp; omega
      have HB := hide hbel
      have hzw : w.heap.size ≤ wr.heap.size := hbel.size
      clear hbel
      generalize ls[k]?.getD [] = f at *
      generalize hTT : ls.take k = T at *
      clear hTT
      go_wp2_with (at_builtin; refine wpList_append_own _ rfl _ _ 31 rfl w.heap.size 9 i0 (.string ⟨#[]⟩) 1 16 Tryz.underlying31 hi hz0 hz1 hz2 rfl (by decide) _ _ _ rfl (hown.alloc _) ⟨wr.heap.size, 0, none⟩ 1 1 [.string (bs f)] rfl rfl ?c1 ?c2 ?c3 ?c4 ?c5 ?_)
      case c2 => first | (intro u hu; simp at hu; subst hu; rfl) | rfl | (simp; done)
      case c3 => unfold maxLen; omega
      case c4 => omega
      case c5 => first | omega | (simp; omega)
      · intro v' w3 hown3 hgrow3 _
        obtain ⟨R1, R2⟩ := own_more (unhide HB) hzw hown hown3 hgrow3
        have H1 := hide R1
        have H2 := hide R2
        clear hown hown3 hgrow3 HB R1 R2
        go_wp2
        go_roundw
        case rel => exact ⟨k + 1, by omega, by go_num, by rw [unhide hnext]; exact unhide H1, unhide H2⟩
        case measure => simp [intOf]; omega
    · have e : k = ls.length := by omega
      subst e
      rw [List.take_length] at hown
      have HO := hide hown
      have HB := hide hbel
      clear hown hbel
      go_wp2_with fail
      go_ret
      exact ⟨_, rfl, unhide HO, unhide HB⟩

set_option maxRecDepth 100000 in
set_option maxHeartbeats 1000000 in
theorem same_eq (w : World) (v1 v2 : Value) (ls : List (List UInt8)) (ao1 ao2 : Option Addr) (b1 off1 cap1 b2 off2 cap2 : Nat) (hT1 : TextsAt w v1 ls ao1 b1 off1 cap1) (hT2 : TextsAt w v2 ls ao2 b2 off2 cap2) (hmax : ls.length ≤ 9223372036854775807) :
    Calls Tryz.prog 39 #[v1, v2] w fun e w' => e = .returned (.bool true) ∧ Below w.heap.size w w' := by
  obtain ⟨rfl, ha1, hc1⟩ := hT1
  obtain ⟨rfl, ha2, hc2⟩ := hT2
  have HM1 : Hid (TextsAt w (.slice ao1 ls.length cap1) ls ao1 b1 off1 cap1) := ⟨rfl, ha1, hc1⟩
  have HM2 : Hid (TextsAt w (.slice ao2 ls.length cap2) ls ao2 b2 off2 cap2) := ⟨rfl, ha2, hc2⟩
  clear ha1 hc1 ha2 hc2
  go_enter Tryz.func39, Tryz.ntmps39
  go_wp2_with fail
  go_loopw [5] (fun i wr => ∃ j : Nat, j ≤ ls.length ∧ i = .int .i64 j ∧ TextsAt wr (.slice ao1 ls.length cap1) ls ao1 b1 off1 cap1 ∧ TextsAt wr (.slice ao2 ls.length cap2) ls ao2 b2 off2 cap2 ∧ Below w.heap.size w wr) (fun i _ => ls.length - (intOf i).toNat)
  case atStart => exact ⟨0, Nat.zero_le _, rfl, unhide HM1, unhide HM2, Below.refl _ _⟩
  case round =>
    obtain ⟨j, hj, rfl, t1, t2, hbel⟩ := hrel
    clear HM1 HM2
    by_cases hlt : j < ls.length
    · obtain rfl := t1.addr (by omega)
      obtain rfl := t2.addr (by omega)
      have cA := t1.cell j hlt
      have cB := t2.cell j hlt
      have T1 := hide t1
      have T2 := hide t2
      have HB := hide hbel
      clear t1 t2 hbel
      generalize ls[j]?.getD [] = f at cA cB
      go_wp2_with fail
      go_quiet (fail)
      all_goals go_wp2
      all_goals go_roundw
      case rel => exact ⟨j + 1, by omega, by go_num, ⟨rfl, fun _ => rfl, (unhide T1).cell⟩, ⟨rfl, fun _ => rfl, (unhide T2).cell⟩, below_drewN (unhide HB) _⟩
      case measure => simp [intOf]; omega
    · have HB := hide hbel
      clear t1 t2 hbel
      go_wp2_with fail
      go_ret
      exact ⟨rfl, unhide HB⟩

set_option maxHeartbeats 1000000 in
theorem joined_any (w : World) (v : Value) (ls : List (List UInt8)) (ao : Option Addr) (b off cap : Nat) (hT : TextsAt w v ls ao b off cap) (hmax : ls.length ≤ 1048576) :
    Calls Tryz.prog 35 #[v] w fun e w' => e = .returned (.bool true) ∧ Below w.heap.size w w' := by
  have HT := hide hT
  have hcp := hide (copied_any w v ls ao b off cap hT hmax)
  clear hT
  go_enter Tryz.func35, Tryz.ntmps35
  go_wp2_with fail
  refine (unhide hcp).mono ?_
  rintro e w1 ⟨v1, rfl, hown1, hb1⟩
  obtain ⟨ao1, b1, cap1, hM1⟩ := own_texts hown1
  have HM1 := hide hM1
  clear hown1 hM1 hcp
  go_wp2_with fail
  refine (gjoin_any _ _ _ _ _ _ _ (unhide HM1) (by omega)).mono ?_
  rintro e w2 ⟨rfl, hb2⟩
  go_wp2_with fail
  refine (rjoin_any _ _ _ _ _ _ _ (((unhide HT).keep hb1).keep hb2) (by omega)).mono ?_
  rintro e w3 ⟨rfl, hb3⟩
  go_wp2_with fail
  refine (same_eq _ _ _ ls _ _ _ _ _ _ _ _ ((((unhide HT).keep hb1).keep hb2).keep hb3) (((unhide HM1).keep hb2).keep hb3) (by omega)).mono ?_
  rintro e w4 ⟨rfl, hb4⟩
  have HB := hide (grew_call (grew_call (grew_call hb1 hb2) hb3) hb4)
  clear hb1 hb2 hb3 hb4 HT HM1
  go_wp2_with (go_at_call 13; refine (bits.num_any _ _).mono ?_; rintro e w5 ⟨rfl, rfl⟩)
  go_ret
  exact ⟨by simp, unhide HB⟩

end Go.Proofs.YtgpojbgjfibblabGreat.texts
