/-
  The walks of pick, tells16 and tells32 (package gistkeep). The walk of the statement Back (package gistkeep). The book of lists (package gistlaw): what it holds in memory; the walks of mark, name and keepsTexts. The book of lists (package gistlaw): the walks of mark and name; what the steps of holds do to the book. The book of lists (package gistlaw): the walk of holds.
  Conditions stand in each theorem.
-/
import Derived.Test.YtgpojbgjfibblabPart1
import Derived.Test.YtgpojbgjfibblabGistRd
import Derived.Test.YtgpojbgjfibblabPart5
import Derived.Test.YtgpojbgjfibblabPart6
import Derived.Maps.AppendAt
namespace Go.Proofs.Ytgpojbgjfibblab.bits
open Go.RowKit
set_option linter.unusedVariables false

/-- which of n things a raw number speaks of -/
def pk (c n : Int) : Int := (if c < 0 then -(c + 1) else c) % n
theorem pk_bd (c n : Int) (h : 0 < n) : 0 ≤ pk c n ∧ pk c n < n := by
  unfold pk; exact ⟨Int.emod_nonneg _ (by omega), Int.emod_lt_of_pos _ h⟩

set_option maxHeartbeats 400000 in
theorem pick_any (c n : Int) (w : World) (hc : -9223372036854775808 ≤ c) (hc' : c ≤ 9223372036854775807) (h : 0 < n) (h' : n ≤ 1000000000) :
    Calls Try.prog 5 #[.int .i64 c, .int .i64 n] w fun e w' => e = .returned (.int .i64 (pk c n)) ∧ w' = w := by
  by_cases h0 : c < 0
  · have e := hide (show pk c n = (-(c + 1)) % n by unfold pk; rw [if_pos h0])
    go_enter Try.func5, Try.ntmps5
    go_wp2
    go_ret
    refine ⟨ret_int ?_, rfl⟩
    rw [unhide e, ← Int.neg_tmod, Int.tmod_eq_emod_of_nonneg (by omega)]
  · have e := hide (show pk c n = c % n by unfold pk; rw [if_neg h0])
    go_enter Try.func5, Try.ntmps5
    go_wp2
    go_ret
    exact ⟨ret_int (unhide e).symm, rfl⟩

theorem mask16 (x k : Int) (h0 : 0 ≤ x) (h1 : x ≤ 65535) (hk' : k ≤ 16) :
    bits BinOp.and IntKind.u16 x (IntKind.u16.wrap ((2 ^ k.toNat - 1) % 4294967296)) = x % pw k.toNat := by
  have h2 := plain.two_pos k.toNat
  have h3 := plain.two_le (show k.toNat ≤ 16 by omega)
  have h4 : (2 : Int) ^ 16 = 65536 := by decide
  have h5 : IntKind.u16.wrap ((2 ^ k.toNat - 1) % 4294967296) = 2 ^ k.toNat - 1 := by
    rw [Int.emod_eq_of_lt (by omega) (by omega), IntKind.wrap_u16, Int.emod_eq_of_lt (by omega) (by omega)]
  rw [h5]
  unfold pw
  obtain ⟨n, rfl⟩ := Int.eq_ofNat_of_zero_le h0
  have h6 : ((2 : Int) ^ k.toNat - 1) = ((2 ^ k.toNat - 1 : Nat) : Int) := by
    have := Nat.two_pow_pos k.toNat
    rw [Int.ofNat_sub (by omega)]; simp
  rw [h6, u16_and_nat _ _ (by omega) (by have := h6; omega), Nat.and_two_pow_sub_one_eq_mod]
  simp

theorem mask32 (x k : Int) (h0 : 0 ≤ x) (h1 : x ≤ 4294967295) (hk' : k ≤ 32) :
    bits BinOp.and IntKind.u32 x (IntKind.u64.wrap (IntKind.u64.wrap (2 ^ k.toNat) - 1) % 4294967296) = x % pw k.toNat := by
  have h2 := plain.two_pos k.toNat
  have h3 := plain.two_le (show k.toNat ≤ 32 by omega)
  have h4 : (2 : Int) ^ 32 = 4294967296 := by decide
  have h5 : IntKind.u64.wrap (IntKind.u64.wrap (2 ^ k.toNat) - 1) % 4294967296 = 2 ^ k.toNat - 1 := by
    rw [wrap_two k hk', IntKind.wrap_u64, Int.emod_eq_of_lt (by omega) (by omega), Int.emod_eq_of_lt (by omega) (by omega)]
  rw [h5]
  unfold pw
  obtain ⟨n, rfl⟩ := Int.eq_ofNat_of_zero_le h0
  have h6 : ((2 : Int) ^ k.toNat - 1) = ((2 ^ k.toNat - 1 : Nat) : Int) := by
    have := Nat.two_pow_pos k.toNat
    rw [Int.ofNat_sub (by omega)]; simp
  rw [h6, u32_and_nat _ _ (by omega) (by have := h6; omega), Nat.and_two_pow_sub_one_eq_mod]
  simp

theorem lowV_mod (wd k : Nat) (r p b : Int) (hk : k ≤ wd) (hb : 0 ≤ b) (hb' : b < 2 ^ k) : plain.lowV wd k r p b % 2 ^ k = b := by
  unfold plain.lowV
  rw [plain.emod_emod_two hk, Int.add_emod_emod, show r - p + (b - (r - p)) = b by omega, Int.emod_eq_of_lt hb hb']

/-- what the plain statement asks, of a number of width wd -/
theorem tells_facts (wd r k p v : Int) (hk : 0 ≤ k) (hk' : k ≤ wd) (hp : 0 ≤ p) (hp' : p < pw k.toNat) (hv : 0 ≤ v) (hv' : v < pw wd.toNat) :
    lowE wd k p (v % pw k.toNat) = 0 ∧ fitE wd k p = 0 ∧ lowR wd k r p (v % pw k.toNat) % pw k.toNat = v % pw k.toNat ∧
    fitR wd (lowR wd k r p (v % pw k.toNat)) r k p = true ∧ fitR wd v r k p = (lowR wd k r p (v % pw k.toNat) == v) := by
  have hc := cnt_pw hk hk'
  have h2 : 0 < pw k.toNat := plain.two_pos k.toNat
  have m0 := Int.emod_nonneg v (Int.ne_of_gt h2)
  have m1 := Int.emod_lt_of_pos v h2
  have a1 : p < cnt k wd := by omega
  have a2 : v % pw k.toNat < cnt k wd := by omega
  have e1 := lowR_good (r := r) a1 a2
  have e2 : lowR wd k r p (v % pw k.toNat) % pw k.toNat = v % pw k.toNat := by
    rw [e1]; exact lowV_mod _ _ _ _ _ (by omega) m0 m1
  have b := lowR_bd wd k r p (v % pw k.toNat)
  refine ⟨lowE_good a1 a2, fitE_good a1, e2, ?_, ?_⟩
  · rw [fitB_eq hk hk' b.1 b.2 a1]
    unfold fitB
    rw [e2, ← e1]
    simp
  · rw [fitB_eq hk hk' hv hv' a1]
    unfold fitB
    rw [e1]

theorem under (x k m : Int) (h0 : 0 ≤ x) (h1 : x ≤ m) : 0 ≤ x % pw k.toNat ∧ x % pw k.toNat ≤ m ∧ x % pw k.toNat < pw k.toNat := by
  have h2 : 0 < pw k.toNat := plain.two_pos k.toNat
  have h3 := Int.emod_nonneg x (Int.ne_of_gt h2)
  have h4 := Int.emod_lt_of_pos x h2
  have h5 : x % pw k.toNat ≤ x := by
    have g1 := Int.emod_add_mul_ediv x (pw k.toNat)
    have g2 := Int.mul_nonneg (Int.le_of_lt h2) (Int.ediv_nonneg h0 (Int.le_of_lt h2))
    omega
  exact ⟨h3, by omega, h4⟩

end Go.Proofs.Ytgpojbgjfibblab.bits

namespace Go.Proofs.Ytgpojbgjfibblab.texts
open Go.RowKit
set_option linter.unusedVariables false
attribute [local go_sem] bs_size be_length bs_append List.length_append bs_extract bs_list bs_toList

theorem bytesRow_at (L : List UInt8) (C i : Nat) (h : i < L.length) : (bytesRow (bs L) C)[i]? = some (.int .u8 L[i].toNat) := by
  unfold bytesRow
  rw [Array.getElem?_append_left (by simp [bs]; exact h)]
  simp [bs, h]
theorem bytesRow_size (L : List UInt8) (C : Nat) : L.length ≤ (bytesRow (bs L) C).size := by
  simp [bytesRow, bs]

theorem xor8 (a d : Nat) (ha : a < 256) (hd : d < 256) : bits BinOp.xor IntKind.u8 (a : Int) (d : Int) = ((UInt8.ofNat (a ^^^ d)).toNat : Nat) := by
  rw [u8_xor_nat a d ha hd, UInt8.toNat_ofNat']
  have : a ^^^ d < 256 := Nat.xor_lt_two_pow (n := 8) ha hd
  omega
theorem block_put {w : World} {g : Nat} {z : Array Value} {t : TypeId} {fr : Nat × Nat} (h : w.heap[g]? = some (.cells z t fr)) (i : Nat) (v : Value) : (w.setCell ⟨g, i, none⟩ v).heap[g]? = some (.cells (z.setIfInBounds i v) t fr) := by
  simp only [World.setCell, Array.getElem?_modify]
  rw [if_pos trivial, h]
  rfl
/-- the bytes of a text, one of them turned, as a text again -/
theorem turned_text (w3 : World) (R : Array Value) (L : List UInt8) (C i d : Nat) (x : Int) (hx : x = (d : Nat)) (hi : i < L.length) (h0 : 0 < d) (hd : d < 256) (hR : ∀ j (hj : j < L.length), R[j]? = some (.int .u8 L[j].toNat)) :
    Sem.run Try.prog (convert 113 9 (.slice (some ⟨w3.heap.size, 0, none⟩) L.length C)) ((w3.alloc (.cells R 5 (R.size, R.size + 1))).setCell ⟨w3.heap.size, i, none⟩ (.int .u8 (bits BinOp.xor IntKind.u8 (L[i].toNat : Int) x))).drew =
      .ok (.string (bs (L.set i (UInt8.ofNat (L[i].toNat ^^^ d))))) ((w3.alloc (.cells R 5 (R.size, R.size + 1))).setCell ⟨w3.heap.size, i, none⟩ (.int .u8 (bits BinOp.xor IntKind.u8 (L[i].toNat : Int) x))).drew := by
  subst hx
  have hl : L.length = (L.set i (UInt8.ofNat (L[i].toNat ^^^ d))).length := by simp
  conv => lhs; rw [hl]
  refine run_convert_bytes_back (P := Try.prog) _ 113 9 5 ⟨w3.heap.size, 0, none⟩ C (L.set i (UInt8.ofNat (L[i].toNat ^^^ d))) Try.underlying113 Try.underlying5 Try.underlying9 (fun j hj => ?_)
  have hj' : j < L.length := by simpa using hj
  have hh := heap_alloc_new w3 (.cells R 5 (R.size, R.size + 1))
  rw [xor8 _ _ (UInt8.toNat_lt _) hd]
  have hp := block_put hh i (.int .u8 ((UInt8.ofNat (L[i].toNat ^^^ d)).toNat : Nat))
  have hc := cell_of_row _ w3.heap.size j _ 5 _ hp
  show World.cell? _ ((⟨w3.heap.size, 0, none⟩ : Addr).add j) = _
  rw [show ((⟨w3.heap.size, 0, none⟩ : Addr).add j) = ⟨w3.heap.size, j, none⟩ by simp [Addr.add]; omega]
  rw [World.cell?_drew, hc, Array.getElem?_setIfInBounds]
  by_cases e : i = j
  · subst e
    have hs : i < R.size := (Array.getElem?_eq_some_iff.1 (hR i hi)).1
    simp [hs]
  · rw [if_neg e, hR j hj', List.getElem_set_ne e]
theorem turned_read (p : Pk) (hp : p.ok) (h : p.body.length ≤ 100) (L : List UInt8) (hL : L = textL p) (i d : Nat) (hi : i < L.length) (h0 : 0 < d) (hd : d < 256) :
    readE (L.set i (UInt8.ofNat (L[i].toNat ^^^ d))) = if i = 19 then 4 else 5 := by
  subst hL
  refine read_turned p hp h i _ hi ?_
  intro e
  have e2 := congrArg UInt8.toNat e
  rw [UInt8.toNat_ofNat'] at e2
  have b := (textL p)[i].toNat_lt
  have hx : (textL p)[i].toNat ^^^ d < 256 := Nat.xor_lt_two_pow (n := 8) b hd
  rw [Nat.mod_eq_of_lt hx] at e2
  have : d = 0 := by
    have h3 : (textL p)[i].toNat ^^^ ((textL p)[i].toNat ^^^ d) = (textL p)[i].toNat ^^^ (textL p)[i].toNat := by rw [e2]
    rw [← Nat.xor_assoc, Nat.xor_self, Nat.zero_xor] at h3
    exact h3
  omega

end Go.Proofs.Ytgpojbgjfibblab.texts

namespace Go.Proofs.Ytgpojbgjfibblab.texts
open Go.RowKit
set_option linter.unusedVariables false
attribute [local go_sem] bs_size bs_append List.length_append bs_list bs_toList bs_extract

/-- a list all of whose texts are x -/
def KeptOk (w : World) (v : Value) (x : List UInt8) : Prop :=
  v = .slice none 0 0 ∨ ∃ g n cap, v = .slice (some ⟨g, 0, none⟩) n cap ∧ g < w.heap.size ∧ ∀ i, i < n → w.cell? ⟨g, i, none⟩ = some (.string (bs x))
theorem KeptOk.lt {w : World} {v : Value} {x : List UInt8} (h : KeptOk w v x) {g : Nat} (hg : v.ownBlock = some g) : g < w.heap.size := by
  rcases h with rfl | ⟨g', n, cap, rfl, h1, _⟩
  · simp [Value.ownBlock] at hg
  · simp [Value.ownBlock] at hg; subst hg; exact h1
theorem KeptOk.form {w : World} {v : Value} {x : List UInt8} (h : KeptOk w v x) : ∃ ao n cap, v = .slice ao n cap := by
  rcases h with rfl | ⟨g', n, cap, rfl, h1, _⟩
  · exact ⟨_, _, _, rfl⟩
  · exact ⟨_, _, _, rfl⟩

/-- a list lies apart from the book's own memory -/
def ApartOf (v : Value) (gB : Nat) (vT vN : Value) : Prop := ∀ g, v.ownBlock = some g → g ≠ gB ∧ vT.ownBlock ≠ some g ∧ vN.ownBlock ≠ some g

/-- a step of the book's: what else lies in memory stays -/
structure BookStep (B : Nat) (w w' : World) (gB : Nat) (vT vN vT' vN' : Value) : Prop where
  below : Below B w w'
  frame : ∀ k, k < w.heap.size → k ≠ gB → vT.ownBlock ≠ some k → vN.ownBlock ≠ some k → w'.heap[k]? = w.heap[k]?
  tT : vT'.ownBlock = vT.ownBlock ∨ ∃ g, vT'.ownBlock = some g ∧ w.heap.size ≤ g
  tN : vN'.ownBlock = vN.ownBlock ∨ ∃ g, vN'.ownBlock = some g ∧ w.heap.size ≤ g

theorem lt_of_cell {w : World} {a : Addr} {v : Value} (h : w.cell? a = some v) : a.block < w.heap.size := by
  by_cases h2 : a.block < w.heap.size
  · exact h2
  · simp [World.cell?, Array.getElem?_eq_none (Nat.le_of_not_lt h2)] at h

/-- a kept list stays while its block does -/
theorem KeptOk.keep {w w' : World} {v : Value} {x : List UInt8} (h : KeptOk w v x) (hz : w.heap.size ≤ w'.heap.size) (hb : ∀ g, v.ownBlock = some g → g < w.heap.size → w'.heap[g]? = w.heap[g]?) : KeptOk w' v x := by
  rcases h with rfl | ⟨g, n, cap, rfl, h1, h2⟩
  · exact Or.inl rfl
  · refine Or.inr ⟨g, n, cap, rfl, by omega, fun i hi => ?_⟩
    rw [World.cell?_of_block (w := w) (hb g rfl h1)]
    exact h2 i hi

/-- a list that came to the book: where the grown row lies -/
theorem own_lt {w : World} {B : Nat} {e : TypeId} {v : Value} {n : Nat} {xs : List Value} (h : w.ownsRow B e 1 v n xs) {g : Nat} (hg : v.ownBlock = some g) : B ≤ g ∧ g < w.heap.size := h.lt g hg

theorem new_after_set (w1 : World) (a : Addr) (v u : Value) (t : TypeId) : ((w1.setCell a v).alloc (.cells #[u] t)).cell? ⟨w1.heap.size, 0, none⟩ = some u := by
  have h := block_cell (heap_alloc_new (w1.setCell a v) (.cells #[u] t)) 0
  simpa using h

end Go.Proofs.Ytgpojbgjfibblab.texts

namespace Go.Proofs.Ytgpojbgjfibblab.texts
open Go.RowKit
set_option linter.unusedVariables false
attribute [local go_sem] bs_size bs_append List.length_append bs_list bs_toList bs_extract

theorem four_bytes (w : World) (a b c d : Int) (ha : 0 ≤ a ∧ a < 256) (hb : 0 ≤ b ∧ b < 256) (hc : 0 ≤ c ∧ c < 256) (hd : 0 ≤ d ∧ d < 256) :
    ∃ x, (convert 113 9 (.slice (some ⟨w.heap.size, 0, none⟩) 4 4)).run Try.prog (w.alloc (.cells #[.int .u8 a, .int .u8 b, .int .u8 c, .int .u8 d] 5)) = .ok (.string (bs x)) (w.alloc (.cells #[.int .u8 a, .int .u8 b, .int .u8 c, .int .u8 d] 5)) := by
  have e : ∀ z : Int, 0 ≤ z ∧ z < 256 → (((UInt8.ofNat z.toNat).toNat : Nat) : Int) = z := by
    intro z hz
    rw [UInt8.toNat_ofNat']; omega
  refine ⟨[UInt8.ofNat a.toNat, UInt8.ofNat b.toNat, UInt8.ofNat c.toNat, UInt8.ofNat d.toNat], run_convert_bytes_back (P := Try.prog) _ 113 9 5 ⟨w.heap.size, 0, none⟩ 4 [UInt8.ofNat a.toNat, UInt8.ofNat b.toNat, UInt8.ofNat c.toNat, UInt8.ofNat d.toNat] Try.underlying113 Try.underlying5 Try.underlying9 (fun j hj => ?_)⟩
  rw [show ((⟨w.heap.size, 0, none⟩ : Addr).add j) = ⟨w.heap.size, j, none⟩ by simp [Addr.add]; omega, block_cell (heap_alloc_new w _) j]
  match j, hj with
  | 0, _ => exact congrArg (fun z => some (Value.int .u8 z)) (e a ha).symm
  | 1, _ => exact congrArg (fun z => some (Value.int .u8 z)) (e b hb).symm
  | 2, _ => exact congrArg (fun z => some (Value.int .u8 z)) (e c hc).symm
  | 3, _ => exact congrArg (fun z => some (Value.int .u8 z)) (e d hd).symm

/-- n times a text -/
def reps (n : Nat) (x : List UInt8) : List Value := List.replicate n (.string (bs x))

theorem reps_at {n i : Nat} {x : List UInt8} (h : i < n) : (reps n x)[i]? = some (.string (bs x)) := by
  unfold reps; rw [List.getElem?_replicate, if_pos h]

/-- what is owned and all x may be kept -/
theorem kept_own {w : World} {B : Nat} {v : Value} {n : Nat} {x : List UInt8} (h : w.ownsRow B 9 1 v n (reps n x)) : KeptOk w v x := by
  rcases h.2 with ⟨rfl, rfl⟩ | ⟨g, cap, cur, rfl, hb, hg, r⟩
  · exact Or.inl rfl
  · exact Or.inr ⟨g, n, cap, rfl, (Array.getElem?_eq_some_iff.1 hg).1, fun i hi => by rw [h.cellAt i (by omega), reps_at hi]⟩

end Go.Proofs.Ytgpojbgjfibblab.texts

namespace Go.Proofs.Ytgpojbgjfibblab.texts
open Go.RowKit
set_option linter.unusedVariables false
attribute [local go_sem] bs_size bs_append List.length_append bs_list bs_toList bs_extract

/-- the lists of the book are short -/
def Shorts (K : List (Value × List UInt8)) : Prop := ∀ e ∈ K, ∃ ao n cap, e.1 = .slice ao n cap ∧ n ≤ 1000000
theorem Shorts.add {K : List (Value × List UInt8)} {v : Value} {x : List UInt8} (h : Shorts K) (hv : ∃ ao n cap, v = .slice ao n cap ∧ n ≤ 1000000) : Shorts (K ++ [(v, x)]) := by
  intro e he
  rcases List.mem_append.1 he with h1 | h1
  · exact h e h1
  · simp at h1; subst h1; exact hv

/-- the list is written full, one place more -/
theorem fill_set (xs : List Value) (k n : Nat) (x : List UInt8) (hk : k < n) (hn : xs.length = n) : (reps k x ++ xs.drop k).set k (.string (bs x)) = reps (k + 1) x ++ xs.drop (k + 1) := by
  have hr : (reps k x).length = k := by simp [reps]
  rw [List.set_append_right _ _ (by omega), hr, Nat.sub_self]
  have hd : xs.drop k = xs[k]'(by omega) :: xs.drop (k + 1) := List.drop_eq_getElem_cons (by omega)
  rw [hd, List.set_cons_zero]
  have e2 : reps (k + 1) x = reps k x ++ [.string (bs x)] := by unfold reps; rw [List.replicate_succ']
  rw [e2, List.append_assoc]; rfl
end Go.Proofs.Ytgpojbgjfibblab.texts
