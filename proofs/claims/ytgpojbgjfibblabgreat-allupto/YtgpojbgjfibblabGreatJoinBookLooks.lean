/-
  The walks of pick, tells16 and tells32 (package gistkeep). The walk of the statement Back (package gistkeep). The book of lists (package gistlaw): what it holds in memory; the walks of mark, name and keepsTexts. The book of lists (package gistlaw): the walks of mark and name; what the steps of holds do to the book. The book of lists (package gistlaw): the walk of holds. The book of lists (package gistlaw): the walk of looks.
  Conditions stand in each theorem.
-/
import Derived.Test.YtgpojbgjfibblabGreatJoinRefCheck
import Derived.Test.YtgpojbgjfibblabGreatGistRd
import Derived.Test.YtgpojbgjfibblabGreatJoinListAids
import Derived.Maps.AppendAt
namespace Go.Proofs.YtgpojbgjfibblabGreat.bits
open Go.RowKit
set_option linter.unusedVariables false

/-- which of n things a raw number speaks of -/
def pk (c n : Int) : Int := (if c < 0 then -(c + 1) else c) % n
theorem pk_bd (c n : Int) (h : 0 < n) : 0 ≤ pk c n ∧ pk c n < n := by
  unfold pk; exact ⟨Int.emod_nonneg _ (by omega), Int.emod_lt_of_pos _ h⟩

theorem mask16 (x k : Int) (h0 : 0 ≤ x) (h1 : x ≤ 65535) (hk' : k ≤ 16) :
    bits BinOp.and IntKind.u16 x (IntKind.u16.wrap ((2 ^ k.toNat - 1) % 4294967296)) = x % pw k.toNat := by
  have h2 := plain.two_pos k.toNat
  have h3 := plain.two_le (show k.toNat ≤ 16 by omega)
  have h4 : (2 : Int) ^ 16 = 65536 := by decide
  have h5 : IntKind.u16.wrap ((2 ^ k.toNat - 1) % 4294967296) = 2 ^ k.toNat - 1 := by
    rw [Int.emod_eq_of_lt (by omega) (by omega), IntKind.wrap_u16, Int.emod_eq_of_lt (by omega) (by omega)]
  rw [h5]
  unfold pw
  obtain ⟨n, rfl⟩ := Int.eq_ofNat_of_zero_le h0
  have h6 : ((2 : Int) ^ k.toNat - 1) = ((2 ^ k.toNat - 1 : Nat) : Int) := by
    have := Nat.two_pow_pos k.toNat
    rw [Int.ofNat_sub (by omega)]; simp
  rw [h6, u16_and_nat _ _ (by omega) (by have := h6; omega), Nat.and_two_pow_sub_one_eq_mod]
  simp

theorem mask32 (x k : Int) (h0 : 0 ≤ x) (h1 : x ≤ 4294967295) (hk' : k ≤ 32) :
    bits BinOp.and IntKind.u32 x (IntKind.u64.wrap (IntKind.u64.wrap (2 ^ k.toNat) - 1) % 4294967296) = x % pw k.toNat := by
  have h2 := plain.two_pos k.toNat
  have h3 := plain.two_le (show k.toNat ≤ 32 by omega)
  have h4 : (2 : Int) ^ 32 = 4294967296 := by decide
  have h5 : IntKind.u64.wrap (IntKind.u64.wrap (2 ^ k.toNat) - 1) % 4294967296 = 2 ^ k.toNat - 1 := by
    rw [wrap_two k hk', IntKind.wrap_u64, Int.emod_eq_of_lt (by omega) (by omega), Int.emod_eq_of_lt (by omega) (by omega)]
  rw [h5]
  unfold pw
  obtain ⟨n, rfl⟩ := Int.eq_ofNat_of_zero_le h0
  have h6 : ((2 : Int) ^ k.toNat - 1) = ((2 ^ k.toNat - 1 : Nat) : Int) := by
    have := Nat.two_pow_pos k.toNat
    rw [Int.ofNat_sub (by omega)]; simp
  rw [h6, u32_and_nat _ _ (by omega) (by have := h6; omega), Nat.and_two_pow_sub_one_eq_mod]
  simp

theorem lowV_mod (wd k : Nat) (r p b : Int) (hk : k ≤ wd) (hb : 0 ≤ b) (hb' : b < 2 ^ k) : plain.lowV wd k r p b % 2 ^ k = b := by
  unfold plain.lowV
  rw [plain.emod_emod_two hk, Int.add_emod_emod, show r - p + (b - (r - p)) = b by omega, Int.emod_eq_of_lt hb hb']

/-- what the plain statement asks, of a number of width wd -/
theorem tells_facts (wd r k p v : Int) (hk : 0 ≤ k) (hk' : k ≤ wd) (hp : 0 ≤ p) (hp' : p < pw k.toNat) (hv : 0 ≤ v) (hv' : v < pw wd.toNat) :
    lowE wd k p (v % pw k.toNat) = 0 ∧ fitE wd k p = 0 ∧ lowR wd k r p (v % pw k.toNat) % pw k.toNat = v % pw k.toNat ∧
    fitR wd (lowR wd k r p (v % pw k.toNat)) r k p = true ∧ fitR wd v r k p = (lowR wd k r p (v % pw k.toNat) == v) := by
  have hc := cnt_pw hk hk'
  have h2 : 0 < pw k.toNat := plain.two_pos k.toNat
  have m0 := Int.emod_nonneg v (Int.ne_of_gt h2)
  have m1 := Int.emod_lt_of_pos v h2
  have a1 : p < cnt k wd := by omega
  have a2 : v % pw k.toNat < cnt k wd := by omega
  have e1 := lowR_good (r := r) a1 a2
  have e2 : lowR wd k r p (v % pw k.toNat) % pw k.toNat = v % pw k.toNat := by
    rw [e1]; exact lowV_mod _ _ _ _ _ (by omega) m0 m1
  have b := lowR_bd wd k r p (v % pw k.toNat)
  refine ⟨lowE_good a1 a2, fitE_good a1, e2, ?_, ?_⟩
  · rw [fitB_eq hk hk' b.1 b.2 a1]
    unfold fitB
    rw [e2, ← e1]
    simp
  · rw [fitB_eq hk hk' hv hv' a1]
    unfold fitB
    rw [e1]

theorem under (x k m : Int) (h0 : 0 ≤ x) (h1 : x ≤ m) : 0 ≤ x % pw k.toNat ∧ x % pw k.toNat ≤ m ∧ x % pw k.toNat < pw k.toNat := by
  have h2 : 0 < pw k.toNat := plain.two_pos k.toNat
  have h3 := Int.emod_nonneg x (Int.ne_of_gt h2)
  have h4 := Int.emod_lt_of_pos x h2
  have h5 : x % pw k.toNat ≤ x := by
    have g1 := Int.emod_add_mul_ediv x (pw k.toNat)
    have g2 := Int.mul_nonneg (Int.le_of_lt h2) (Int.ediv_nonneg h0 (Int.le_of_lt h2))
    omega
  exact ⟨h3, by omega, h4⟩

end Go.Proofs.YtgpojbgjfibblabGreat.bits

namespace Go.Proofs.YtgpojbgjfibblabGreat.texts
open Go.RowKit
set_option linter.unusedVariables false
attribute [local go_sem] bs_size be_length bs_append List.length_append bs_extract bs_list bs_toList

theorem bytesRow_at (L : List UInt8) (C i : Nat) (h : i < L.length) : (bytesRow (bs L) C)[i]? = some (.int .u8 L[i].toNat) := by
  unfold bytesRow
  rw [Array.getElem?_append_left (by simp [bs]; exact h)]
  simp [bs, h]
theorem bytesRow_size (L : List UInt8) (C : Nat) : L.length ≤ (bytesRow (bs L) C).size := by
  simp [bytesRow, bs]

theorem xor8 (a d : Nat) (ha : a < 256) (hd : d < 256) : bits BinOp.xor IntKind.u8 (a : Int) (d : Int) = ((UInt8.ofNat (a ^^^ d)).toNat : Nat) := by
  rw [u8_xor_nat a d ha hd, UInt8.toNat_ofNat']
  have : a ^^^ d < 256 := Nat.xor_lt_two_pow (n := 8) ha hd
  omega
theorem block_put {w : World} {g : Nat} {z : Array Value} {t : TypeId} {fr : Nat × Nat} (h : w.heap[g]? = some (.cells z t fr)) (i : Nat) (v : Value) : (w.setCell ⟨g, i, none⟩ v).heap[g]? = some (.cells (z.setIfInBounds i v) t fr) := by
  simp only [World.setCell, Array.getElem?_modify]
  rw [if_pos trivial, h]
  rfl
/-- the bytes of a text, one of them turned, as a text again -/
theorem turned_text (w3 : World) (R : Array Value) (L : List UInt8) (C i d : Nat) (x : Int) (hx : x = (d : Nat)) (hi : i < L.length) (h0 : 0 < d) (hd : d < 256) (hR : ∀ j (hj : j < L.length), R[j]? = some (.int .u8 L[j].toNat)) :
    Sem.run Tryz.prog (convert 179 9 (.slice (some ⟨w3.heap.size, 0, none⟩) L.length C)) ((w3.alloc (.cells R 5 (R.size, R.size + 1))).setCell ⟨w3.heap.size, i, none⟩ (.int .u8 (bits BinOp.xor IntKind.u8 (L[i].toNat : Int) x))).drew =
      .ok (.string (bs (L.set i (UInt8.ofNat (L[i].toNat ^^^ d))))) ((w3.alloc (.cells R 5 (R.size, R.size + 1))).setCell ⟨w3.heap.size, i, none⟩ (.int .u8 (bits BinOp.xor IntKind.u8 (L[i].toNat : Int) x))).drew := by
  subst hx
  have hl : L.length = (L.set i (UInt8.ofNat (L[i].toNat ^^^ d))).length := by simp
  conv => lhs; rw [hl]
  refine run_convert_bytes_back (P := Tryz.prog) _ 179 9 5 ⟨w3.heap.size, 0, none⟩ C (L.set i (UInt8.ofNat (L[i].toNat ^^^ d))) Tryz.underlying179 Tryz.underlying5 Tryz.underlying9 (fun j hj => ?_)
  have hj' : j < L.length := by simpa using hj
  have hh := heap_alloc_new w3 (.cells R 5 (R.size, R.size + 1))
  rw [xor8 _ _ (UInt8.toNat_lt _) hd]
  have hp := block_put hh i (.int .u8 ((UInt8.ofNat (L[i].toNat ^^^ d)).toNat : Nat))
  have hc := cell_of_row _ w3.heap.size j _ 5 _ hp
  show World.cell? _ ((⟨w3.heap.size, 0, none⟩ : Addr).add j) = _
  rw [show ((⟨w3.heap.size, 0, none⟩ : Addr).add j) = ⟨w3.heap.size, j, none⟩ by simp [Addr.add]; omega]
  rw [World.cell?_drew, hc, Array.getElem?_setIfInBounds]
  by_cases e : i = j
  · subst e
    have hs : i < R.size := (Array.getElem?_eq_some_iff.1 (hR i hi)).1
    simp [hs]
  · rw [if_neg e, hR j hj', List.getElem_set_ne e]
theorem turned_read (p : Pk) (hp : p.ok) (h : p.body.length ≤ 100) (L : List UInt8) (hL : L = textL p) (i d : Nat) (hi : i < L.length) (h0 : 0 < d) (hd : d < 256) :
    readE (L.set i (UInt8.ofNat (L[i].toNat ^^^ d))) = if i = 19 then 4 else 5 := by
  subst hL
  refine read_turned p hp h i _ hi ?_
  intro e
  have e2 := congrArg UInt8.toNat e
  rw [UInt8.toNat_ofNat'] at e2
  have b := (textL p)[i].toNat_lt
  have hx : (textL p)[i].toNat ^^^ d < 256 := Nat.xor_lt_two_pow (n := 8) b hd
  rw [Nat.mod_eq_of_lt hx] at e2
  have : d = 0 := by
    have h3 : (textL p)[i].toNat ^^^ ((textL p)[i].toNat ^^^ d) = (textL p)[i].toNat ^^^ (textL p)[i].toNat := by rw [e2]
    rw [← Nat.xor_assoc, Nat.xor_self, Nat.zero_xor] at h3
    exact h3
  omega

end Go.Proofs.YtgpojbgjfibblabGreat.texts

namespace Go.Proofs.YtgpojbgjfibblabGreat.texts
open Go.RowKit
set_option linter.unusedVariables false
attribute [local go_sem] bs_size bs_append List.length_append bs_list bs_toList bs_extract

/-- a list all of whose texts are x -/
def KeptOk (w : World) (v : Value) (x : List UInt8) : Prop :=
  v = .slice none 0 0 ∨ ∃ g n cap, v = .slice (some ⟨g, 0, none⟩) n cap ∧ g < w.heap.size ∧ ∀ i, i < n → w.cell? ⟨g, i, none⟩ = some (.string (bs x))
theorem KeptOk.lt {w : World} {v : Value} {x : List UInt8} (h : KeptOk w v x) {g : Nat} (hg : v.ownBlock = some g) : g < w.heap.size := by
  rcases h with rfl | ⟨g', n, cap, rfl, h1, _⟩
  · simp [Value.ownBlock] at hg
  · simp [Value.ownBlock] at hg; subst hg; exact h1
theorem KeptOk.form {w : World} {v : Value} {x : List UInt8} (h : KeptOk w v x) : ∃ ao n cap, v = .slice ao n cap := by
  rcases h with rfl | ⟨g', n, cap, rfl, h1, _⟩
  · exact ⟨_, _, _, rfl⟩
  · exact ⟨_, _, _, rfl⟩

/-- a list lies apart from the book's own memory -/
def ApartOf (v : Value) (gB : Nat) (vT vN : Value) : Prop := ∀ g, v.ownBlock = some g → g ≠ gB ∧ vT.ownBlock ≠ some g ∧ vN.ownBlock ≠ some g

/-- the book in memory -/
structure BookAt (B : Nat) (w : World) (gB : Nat) (vT vN : Value) (next : Int) (K : List (Value × List UInt8)) : Prop where
  blk : w.heap[gB]? = some (.cells #[.slice none 0 0, vT, .slice none 0 0, vN, .int .i64 next] 33 (0, 0))
  oT : w.ownsRow B 31 1 vT K.length (K.map (·.1))
  oN : w.ownsRow B 9 1 vN K.length (K.map fun e => .string (bs e.2))
  low : B ≤ gB
  kept : ∀ e ∈ K, KeptOk w e.1 e.2 ∧ ApartOf e.1 gB vT vN

/-- a step of the book's: what else lies in memory stays -/
structure BookStep (B : Nat) (w w' : World) (gB : Nat) (vT vN vT' vN' : Value) : Prop where
  below : Below B w w'
  frame : ∀ k, k < w.heap.size → k ≠ gB → vT.ownBlock ≠ some k → vN.ownBlock ≠ some k → w'.heap[k]? = w.heap[k]?
  tT : vT'.ownBlock = vT.ownBlock ∨ ∃ g, vT'.ownBlock = some g ∧ w.heap.size ≤ g
  tN : vN'.ownBlock = vN.ownBlock ∨ ∃ g, vN'.ownBlock = some g ∧ w.heap.size ≤ g

theorem infoSl : (Tryz.prog.info? 31).map (fun i => (i.zero, i.size, i.bytes)) = some (some (.slice none 0 0), 1, 24) := by kernel_rfl

theorem lt_of_cell {w : World} {a : Addr} {v : Value} (h : w.cell? a = some v) : a.block < w.heap.size := by
  by_cases h2 : a.block < w.heap.size
  · exact h2
  · simp [World.cell?, Array.getElem?_eq_none (Nat.le_of_not_lt h2)] at h

/-- a kept list stays while its block does -/
theorem KeptOk.keep {w w' : World} {v : Value} {x : List UInt8} (h : KeptOk w v x) (hz : w.heap.size ≤ w'.heap.size) (hb : ∀ g, v.ownBlock = some g → g < w.heap.size → w'.heap[g]? = w.heap[g]?) : KeptOk w' v x := by
  rcases h with rfl | ⟨g, n, cap, rfl, h1, h2⟩
  · exact Or.inl rfl
  · refine Or.inr ⟨g, n, cap, rfl, by omega, fun i hi => ?_⟩
    rw [World.cell?_of_block (w := w) (hb g rfl h1)]
    exact h2 i hi

/-- the three blocks of the book are apart -/
theorem BookAt.sep {B : Nat} {w : World} {gB : Nat} {vT vN : Value} {next : Int} {K : List (Value × List UInt8)} (h : BookAt B w gB vT vN next K) :
    vT.ownBlock ≠ some gB ∧ vN.ownBlock ≠ some gB ∧ ∀ g, vT.ownBlock = some g → vN.ownBlock ≠ some g := by
  have hT := h.oT
  have hN := h.oN
  have tT : ∀ g, vT.ownBlock = some g → ∃ cur, w.heap[g]? = some (.cells cur 31 (0, 0)) := by
    intro g hg
    rcases hT.2 with ⟨rfl, _⟩ | ⟨g', cap, cur, rfl, _, hh, _⟩
    · simp [Value.ownBlock] at hg
    · simp [Value.ownBlock] at hg; subst hg; exact ⟨cur, hh⟩
  have tN : ∀ g, vN.ownBlock = some g → ∃ cur, w.heap[g]? = some (.cells cur 9 (0, 0)) := by
    intro g hg
    rcases hN.2 with ⟨rfl, _⟩ | ⟨g', cap, cur, rfl, _, hh, _⟩
    · simp [Value.ownBlock] at hg
    · simp [Value.ownBlock] at hg; subst hg; exact ⟨cur, hh⟩
  refine ⟨fun e => ?_, fun e => ?_, fun g e1 e2 => ?_⟩
  · obtain ⟨cur, hc⟩ := tT gB e
    rw [h.blk] at hc; simp at hc
  · obtain ⟨cur, hc⟩ := tN gB e
    rw [h.blk] at hc; simp at hc
  · obtain ⟨c1, h1⟩ := tT g e1
    obtain ⟨c2, h2⟩ := tN g e2
    rw [h1] at h2; simp at h2

/-- a list that came to the book: where the grown row lies -/
theorem own_lt {w : World} {B : Nat} {e : TypeId} {v : Value} {n : Nat} {xs : List Value} (h : w.ownsRow B e 1 v n xs) {g : Nat} (hg : v.ownBlock = some g) : B ≤ g ∧ g < w.heap.size := h.lt g hg

/-- half way: the texts are grown and stored -/
theorem book_mid {B : Nat} {w w1 : World} {gB : Nat} {vT vN vT' : Value} {next : Int} {K : List (Value × List UInt8)} {o : Obj} (hK : BookAt B w gB vT vN next K) (hg : (w.alloc o).grownBy w1 vT.ownBlock) :
    w1.heap[gB]? = some (.cells #[.slice none 0 0, vT, .slice none 0 0, vN, .int .i64 next] 33 (0, 0)) ∧
    (w1.setCell ⟨gB, 1, none⟩ vT').heap[gB]? = some (.cells #[.slice none 0 0, vT', .slice none 0 0, vN, .int .i64 next] 33 (0, 0)) ∧
    (w1.setCell ⟨gB, 1, none⟩ vT').ownsRow B 9 1 vN K.length (K.map fun e => .string (bs e.2)) ∧ w.heap.size + 1 ≤ w1.heap.size := by
  obtain ⟨s1, s2, s3⟩ := hK.sep
  have hlt := block_lt hK.blk
  have b1 : w1.heap[gB]? = some (.cells #[.slice none 0 0, vT, .slice none 0 0, vN, .int .i64 next] 33 (0, 0)) := by
    rw [hg.block gB (by simp; omega) (fun e => s1 e.symm)]
    exact block_alloc hK.blk o
  refine ⟨b1, ?_, ?_, by have := hg.size; simp at this; omega⟩
  · have := block_put b1 1 vT'
    exact this
  · have h1 := (hK.oN.alloc o).kept hg (by
      cases e : vN.ownBlock with
      | none => exact Or.inl rfl
      | some g => exact Or.inr (fun e2 => s3 g e2.symm e))
    exact ownsRow_setCell_other h1 (fun e => s2 e) _

theorem book_four {B : Nat} {w w1 w4 : World} {gB : Nat} {vT vN vT' : Value} {next : Int} {K : List (Value × List UInt8)} {o1 o2 : Obj} (hK : BookAt B w gB vT vN next K) (hg1 : (w.alloc o1).grownBy w1 vT.ownBlock)
    (hg2 : ((w1.setCell ⟨gB, 1, none⟩ vT').alloc o2).grownBy w4 vN.ownBlock) : w4.heap[gB]? = some (.cells #[.slice none 0 0, vT', .slice none 0 0, vN, .int .i64 next] 33 (0, 0)) := by
  obtain ⟨s1, s2, s3⟩ := hK.sep
  have hlt := block_lt hK.blk
  obtain ⟨m1, m2, m3, m4⟩ := book_mid (vT' := vT') hK hg1
  rw [hg2.block gB (by simp; omega) (fun e => s2 e.symm)]
  exact block_alloc m2 o2
theorem new_after_set (w1 : World) (a : Addr) (v u : Value) (t : TypeId) : ((w1.setCell a v).alloc (.cells #[u] t)).cell? ⟨w1.heap.size, 0, none⟩ = some u := by
  have h := block_cell (heap_alloc_new (w1.setCell a v) (.cells #[u] t)) 0
  simpa using h

theorem book_end {B : Nat} {w w1 w4 : World} {gB : Nat} {vT vN vT' vN' v : Value} {x : List UInt8} {next : Int} {K : List (Value × List UInt8)} {o1 o2 : Obj} (hK : BookAt B w gB vT vN next K)
    (hv : KeptOk w v x) (hap : ApartOf v gB vT vN)
    (hT1 : w1.ownsRow B 31 1 vT' (K.length + 1) (K.map (·.1) ++ [v])) (hg1 : (w.alloc o1).grownBy w1 vT.ownBlock) (hat1 : vT'.ownBlock = vT.ownBlock ∨ vT'.ownBlock = some (w.heap.size + 1))
    (hN1 : w4.ownsRow B 9 1 vN' (K.length + 1) ((K.map fun e => .string (bs e.2)) ++ [.string (bs x)])) (hg2 : ((w1.setCell ⟨gB, 1, none⟩ vT').alloc o2).grownBy w4 vN.ownBlock) (hat2 : vN'.ownBlock = vN.ownBlock ∨ vN'.ownBlock = some (w1.heap.size + 1)) :
    BookAt B (w4.setCell ⟨gB, 3, none⟩ vN') gB vT' vN' next (K ++ [(v, x)]) ∧ BookStep B w (w4.setCell ⟨gB, 3, none⟩ vN') gB vT vN vT' vN' := by
  obtain ⟨s1, s2, s3⟩ := hK.sep
  have hlt := block_lt hK.blk
  obtain ⟨m1, m2, m3, m4⟩ := book_mid (vT' := vT') hK hg1
  have hsz2 : (w1.setCell ⟨gB, 1, none⟩ vT').heap.size = w1.heap.size := by simp
  have z4 : w1.heap.size + 1 ≤ w4.heap.size := by have := hg2.size; simp at this; omega
  -- blocks that neither step touches
  have fr : ∀ k, k < w.heap.size → k ≠ gB → vT.ownBlock ≠ some k → vN.ownBlock ≠ some k → (w4.setCell ⟨gB, 3, none⟩ vN').heap[k]? = w.heap[k]? := by
    intro k hk h1 h2 h3
    rw [Below.heap_setCell _ _ _ _ (by simpa using h1), hg2.block k (by simp; omega) (fun e => h3 e.symm), Below.heap_alloc _ _ _ (by rw [hsz2]; omega), Below.heap_setCell _ _ _ _ (by simpa using h1), hg1.block k (by simp; omega) (fun e => h2 e.symm), Below.heap_alloc _ _ _ hk]
  have tNlt : ∀ g, vN.ownBlock = some g → g < w.heap.size := fun g e => (own_lt hK.oN e).2
  have tTlt : ∀ g, vT.ownBlock = some g → g < w.heap.size := fun g e => (own_lt hK.oT e).2
  have aT : vT'.ownBlock ≠ some gB := by
    rcases hat1 with e | e
    · rw [e]; exact s1
    · rw [e]; simp; omega
  have aTN : ∀ g, vT'.ownBlock = some g → vN.ownBlock ≠ some g := by
    intro g e1 e2
    rcases hat1 with e | e
    · rw [e] at e1; exact s3 g e1 e2
    · rw [e] at e1; simp at e1; have := tNlt g e2; omega
  have aN : vN'.ownBlock ≠ some gB := by
    rcases hat2 with e | e
    · rw [e]; exact s2
    · rw [e]; simp; omega
  have low4 : ∀ k, k < B → w4.heap[k]? = w.heap[k]? := by
    intro k hk
    have hB := hK.low
    rw [hg2.block k (by simp; omega) (fun e => by have := (own_lt hK.oN e.symm).1; omega), Below.heap_alloc _ _ _ (by rw [hsz2]; omega), Below.heap_setCell _ _ _ _ (by simp; omega), hg1.block k (by simp; omega) (fun e => by have := (own_lt hK.oT e.symm).1; omega), Below.heap_alloc _ _ _ (by omega)]
  refine ⟨⟨?_, ?_, ?_, hK.low, ?_⟩, ⟨?_, fr, ?_, ?_⟩⟩
  · have b4 : w4.heap[gB]? = some (.cells #[.slice none 0 0, vT', .slice none 0 0, vN, .int .i64 next] 33 (0, 0)) := by
      rw [hg2.block gB (by simp; omega) (fun e => s2 e.symm)]
      exact block_alloc m2 o2
    exact block_put b4 3 vN'
  · rw [List.length_append, List.map_append]
    have h2 := ownsRow_setCell_other (a := ⟨gB, 1, none⟩) hT1 aT vT'
    have h3 := (h2.alloc o2).kept hg2 (by
      cases e : vT'.ownBlock with
      | none => exact Or.inl rfl
      | some g => exact Or.inr (fun e2 => aTN g e e2.symm))
    exact ownsRow_setCell_other (a := ⟨gB, 3, none⟩) h3 aT vN'
  · rw [List.length_append, List.map_append]
    exact ownsRow_setCell_other (a := ⟨gB, 3, none⟩) hN1 aN vN'
  · intro e he
    have both : KeptOk w e.1 e.2 ∧ ApartOf e.1 gB vT vN := by
      rcases List.mem_append.1 he with h | h
      · exact hK.kept e h
      · simp at h; subst h; exact ⟨hv, hap⟩
    obtain ⟨k1, k2⟩ := both
    refine ⟨k1.keep (by simp; omega) (fun g hg hlt => fr g hlt (k2 g hg).1 (k2 g hg).2.1 (k2 g hg).2.2), fun g hg => ⟨(k2 g hg).1, ?_, ?_⟩⟩
    · have hgl := k1.lt hg
      rcases hat1 with e | e
      · rw [e]; exact (k2 g hg).2.1
      · rw [e]; simp; omega
    · have hgl := k1.lt hg
      rcases hat2 with e | e
      · rw [e]; exact (k2 g hg).2.2
      · rw [e]; simp; omega
  · refine ⟨?_, ?_, ?_, by simp; omega, fun k hk => ?_⟩
    · show w4.os = w.os; rw [hg2.os]; exact hg1.os
    · show w4.tape = w.tape; rw [hg2.tape]; exact hg1.tape
    · show w4.output = w.output; rw [hg2.output]; exact hg1.output
    · have hB := hK.low
      rw [Below.heap_setCell _ _ _ _ (by simp; omega)]; exact low4 k hk
  · rcases hat1 with e | e
    · exact Or.inl e
    · exact Or.inr ⟨_, e, by omega⟩
  · rcases hat2 with e | e
    · exact Or.inl e
    · exact Or.inr ⟨_, e, by omega⟩

set_option maxRecDepth 100000 in
set_option maxHeartbeats 1000000 in
theorem keeps_any (B : Nat) (w : World) (gB : Nat) (vT vN : Value) (next : Int) (K : List (Value × List UInt8)) (v : Value) (x : List UInt8) (hK : BookAt B w gB vT vN next K) (hlen : K.length ≤ 1073741824)
    (hv : KeptOk w v x) (hap : ApartOf v gB vT vN) :
    Calls Tryz.prog 66 #[.pointer (some ⟨gB, 0, none⟩), v, .string (bs x)] w fun e w' => e = .returned (.tuple #[]) ∧ ∃ vT' vN', BookAt B w' gB vT' vN' next (K ++ [(v, x)]) ∧ BookStep B w w' gB vT vN vT' vN' := by
  obtain ⟨i0, hi, hz0, hz1, hz2⟩ := info_parts infoSl
  obtain ⟨i1, ki, kz0, kz1, kz2⟩ := info_parts infoS
  have HK := hide hK
  have c1 : w.cell? ⟨gB, 1, none⟩ = some vT := block_cell hK.blk 1
  have f1 : w.frozen? ⟨gB, 1, none⟩ = false := block_free hK.blk 1
  have hown := hK.oT
  have hlow := hK.low
  have hgB := block_lt hK.blk
  obtain ⟨ao, n, cap, rfl⟩ := hv.form
  have HV := hide hv
  have HAP := hide hap
  clear hK hv hap
  go_enter Tryz.func66, Tryz.ntmps66
  go_wp2_with (at_builtin; refine wpList_append_own_at _ rfl _ _ 30 rfl B 31 i0 (.slice none 0 0) 1 24 Tryz.underlying30 hi hz0 hz1 hz2 rfl (by decide) _ _ _ rfl (hown.alloc _) ⟨w.heap.size, 0, none⟩ 1 1 [.slice ao n cap] rfl rfl ?c1 ?c2 ?c3 ?c4 ?c5 ?_)
  case c1 =>
    intro j u hj
    match j, hj with
    | 0, hj => simp at hj; subst hj; simp [Addr.add]
  case c2 => first | (intro u hu; simp at hu; subst hu; rfl) | rfl
  case c3 => unfold maxLen; omega
  case c4 => omega
  case c5 => first | omega | (simp; omega)
  intro vT' w1 hT1 hg1 _ hat1
  obtain ⟨aoT, capT, rfl⟩ := own_slice hT1
  obtain ⟨m1, m2, m3, m4⟩ := book_mid (vT' := .slice aoT (K.length + 1) capT) (unhide HK) hg1
  have d1 : w1.cell? ⟨gB, 1, none⟩ = some vT := block_cell m1 1
  have d2 : w1.frozen? ⟨gB, 1, none⟩ = false := block_free m1 1
  have d3 : (w1.setCell ⟨gB, 1, none⟩ (.slice aoT (K.length + 1) capT)).cell? ⟨gB, 3, none⟩ = some vN := block_cell m2 3
  have d4 : (w1.setCell ⟨gB, 1, none⟩ (.slice aoT (K.length + 1) capT)).frozen? ⟨gB, 3, none⟩ = false := block_free m2 3
  have HT1 := hide hT1
  have Hg1 := hide hg1
  have Hat1 := hide hat1
  clear hT1 hg1 hat1 m1 m2 hown c1 f1
  go_wp2_with (at_builtin; refine wpList_append_own_at _ rfl _ _ 31 rfl B 9 i1 (.string ⟨#[]⟩) 1 16 Tryz.underlying31 ki kz0 kz1 kz2 rfl (by decide) _ _ _ rfl (m3.alloc _) ⟨w1.heap.size, 0, none⟩ 1 1 [.string (bs x)] rfl rfl ?e1 ?e2 ?e3 ?e4 ?e5 ?_)
  case e1 =>
    intro j u hj
    match j, hj with
    | 0, hj =>
      simp at hj
      subst hj
      exact new_after_set w1 _ _ _ _
  case e2 => first | (intro u hu; simp at hu; subst hu; rfl) | rfl
  case e3 => unfold maxLen; omega
  case e4 => omega
  case e5 => first | omega | (simp; omega)
  intro vN' w4 hN1 hg2 _ hat2
  obtain ⟨aoN, capN, rfl⟩ := own_slice hN1
  have b4 := book_four (unhide HK) (unhide Hg1) hg2
  have e3 : w4.cell? ⟨gB, 3, none⟩ = some vN := block_cell b4 3
  have e4 : w4.frozen? ⟨gB, 3, none⟩ = false := block_free b4 3
  have fin := hide (book_end (unhide HK) (unhide HV) (unhide HAP) (unhide HT1) (unhide Hg1) (unhide Hat1) hN1 hg2 hat2)
  clear b4 hN1 hg2 hat2 d1 d2 d3 d4 m3
  go_wp2
  go_end0
  exact ⟨rfl, _, _, (unhide fin).1, (unhide fin).2⟩

end Go.Proofs.YtgpojbgjfibblabGreat.texts

namespace Go.Proofs.YtgpojbgjfibblabGreat.texts
open Go.RowKit
set_option linter.unusedVariables false
attribute [local go_sem] bs_size bs_append List.length_append bs_list bs_toList bs_extract

theorem BookAt.grew {B : Nat} {w w' : World} {gB : Nat} {vT vN : Value} {next : Int} {K : List (Value × List UInt8)} (h : BookAt B w gB vT vN next K) (hb : Below w.heap.size w w') : BookAt B w' gB vT vN next K :=
  ⟨block_keep h.blk hb, own_keep h.oT hb, own_keep h.oN hb, h.low, fun e he => ⟨(h.kept e he).1.keep hb.size (fun g _ hlt => hb.block g hlt), (h.kept e he).2⟩⟩

/-- a write elsewhere: the book stays -/
theorem BookAt.other {B : Nat} {w w' : World} {gB : Nat} {vT vN : Value} {next : Int} {K : List (Value × List UInt8)} (h : BookAt B w gB vT vN next K) (hz : w.heap.size ≤ w'.heap.size)
    (hs : ∀ k, k < w.heap.size → (k = gB ∨ vT.ownBlock = some k ∨ vN.ownBlock = some k) → w'.heap[k]? = w.heap[k]?) (hk : ∀ e ∈ K, KeptOk w' e.1 e.2) : BookAt B w' gB vT vN next K := by
  have own : ∀ {e : TypeId} {v : Value} {n : Nat} {xs : List Value}, w.ownsRow B e 1 v n xs → (∀ k, v.ownBlock = some k → w'.heap[k]? = w.heap[k]?) → w'.ownsRow B e 1 v n xs := by
    intro e v n xs ho hb
    refine ⟨ho.1, ?_⟩
    rcases ho.2 with h2 | ⟨g, cap, cur, rfl, hg, hh, r⟩
    · exact Or.inl h2
    · exact Or.inr ⟨g, cap, cur, rfl, hg, by rw [hb g rfl]; exact hh, r⟩
  refine ⟨by rw [hs gB (block_lt h.blk) (Or.inl rfl)]; exact h.blk, own h.oT (fun k e => hs k (own_lt h.oT e).2 (Or.inr (Or.inl e))), own h.oN (fun k e => hs k (own_lt h.oN e).2 (Or.inr (Or.inr e))), h.low, fun e he => ⟨hk e he, (h.kept e he).2⟩⟩

set_option maxRecDepth 100000 in
set_option maxHeartbeats 1000000 in
theorem mark_any (B : Nat) (w : World) (gB : Nat) (vT vN : Value) (next : Int) (K : List (Value × List UInt8)) (hK : BookAt B w gB vT vN next K) (h0 : -1073741824 ≤ next) (h1 : next ≤ 1073741824) :
    Calls Tryz.prog 53 #[.pointer (some ⟨gB, 0, none⟩)] w fun e w' => e = .returned (.int .i64 (next - 1)) ∧ w' = w.setCell ⟨gB, 4, none⟩ (.int .i64 (next - 1)) := by
  have c1 : w.cell? ⟨gB, 4, none⟩ = some (.int .i64 next) := block_cell hK.blk 4
  have f1 : w.frozen? ⟨gB, 4, none⟩ = false := block_free hK.blk 4
  clear hK
  go_enter Tryz.func53, Tryz.ntmps53
  go_wp2
  go_ret
  exact ⟨rfl, rfl⟩
theorem mark_book {B : Nat} {w : World} {gB : Nat} {vT vN : Value} {next : Int} {K : List (Value × List UInt8)} (hK : BookAt B w gB vT vN next K) (m : Int) : BookAt B (w.setCell ⟨gB, 4, none⟩ (.int .i64 m)) gB vT vN m K := by
  obtain ⟨s1, s2, s3⟩ := hK.sep
  refine ⟨block_put hK.blk 4 _, ownsRow_setCell_other hK.oT s1 _, ownsRow_setCell_other hK.oN s2 _, hK.low, fun e he => ⟨(hK.kept e he).1.keep (by simp) (fun g hg hlt => Below.heap_setCell _ _ _ _ (by have := ((hK.kept e he).2 g hg).1; simpa using this)), (hK.kept e he).2⟩⟩

theorem four_bytes (w : World) (a b c d : Int) (ha : 0 ≤ a ∧ a < 256) (hb : 0 ≤ b ∧ b < 256) (hc : 0 ≤ c ∧ c < 256) (hd : 0 ≤ d ∧ d < 256) :
    ∃ x, (convert 179 9 (.slice (some ⟨w.heap.size, 0, none⟩) 4 4)).run Tryz.prog (w.alloc (.cells #[.int .u8 a, .int .u8 b, .int .u8 c, .int .u8 d] 5)) = .ok (.string (bs x)) (w.alloc (.cells #[.int .u8 a, .int .u8 b, .int .u8 c, .int .u8 d] 5)) := by
  have e : ∀ z : Int, 0 ≤ z ∧ z < 256 → (((UInt8.ofNat z.toNat).toNat : Nat) : Int) = z := by
    intro z hz
    rw [UInt8.toNat_ofNat']; omega
  refine ⟨[UInt8.ofNat a.toNat, UInt8.ofNat b.toNat, UInt8.ofNat c.toNat, UInt8.ofNat d.toNat], run_convert_bytes_back (P := Tryz.prog) _ 179 9 5 ⟨w.heap.size, 0, none⟩ 4 [UInt8.ofNat a.toNat, UInt8.ofNat b.toNat, UInt8.ofNat c.toNat, UInt8.ofNat d.toNat] Tryz.underlying179 Tryz.underlying5 Tryz.underlying9 (fun j hj => ?_)⟩
  rw [show ((⟨w.heap.size, 0, none⟩ : Addr).add j) = ⟨w.heap.size, j, none⟩ by simp [Addr.add]; omega, block_cell (heap_alloc_new w _) j]
  match j, hj with
  | 0, _ => exact congrArg (fun z => some (Value.int .u8 z)) (e a ha).symm
  | 1, _ => exact congrArg (fun z => some (Value.int .u8 z)) (e b hb).symm
  | 2, _ => exact congrArg (fun z => some (Value.int .u8 z)) (e c hc).symm
  | 3, _ => exact congrArg (fun z => some (Value.int .u8 z)) (e d hd).symm

set_option maxRecDepth 100000 in
set_option maxHeartbeats 1000000 in
theorem name_any (n : Int) (w : World) (h0 : -1073741825 ≤ n) (h1 : n ≤ 1073741825) :
    Calls Tryz.prog 65 #[.int .i64 n] w fun e w' => ∃ x, e = .returned (.string (bs x)) ∧ Below w.heap.size w w' := by
  obtain ⟨x, hx⟩ := four_bytes w 35 (n % 256) (n / 256 % 256) (n / 65536 % 256) (by omega) (by omega) (by omega) (by omega)
  go_enter Tryz.func65, Tryz.ntmps65
  go_wp2
  go_ret
  exact ⟨x, rfl, (Below.refl _ _).alloc (Nat.le_refl _) _⟩

/-- n times a text -/
def reps (n : Nat) (x : List UInt8) : List Value := List.replicate n (.string (bs x))

/-- a list of the caller's that is written full, while the book takes it in: l, its texts all x; the lists in its block have x as their mark and are no longer than c -/
structure Hold (B : Nat) (w : World) (gB : Nat) (vT vN : Value) (next : Int) (K : List (Value × List UInt8)) (l : Value) (n c : Nat) (x : List UInt8) : Prop where
  book : BookAt B w gB vT vN next K
  own : w.ownsRow B 9 1 l n (reps n x)
  apart : ApartOf l gB vT vN
  same : ∀ e ∈ K, ∀ g, l.ownBlock = some g → e.1.ownBlock = some g → e.2 = x ∧ ∃ n' cap', e.1 = .slice (some ⟨g, 0, none⟩) n' cap' ∧ n' ≤ c

theorem reps_at {n i : Nat} {x : List UInt8} (h : i < n) : (reps n x)[i]? = some (.string (bs x)) := by
  unfold reps; rw [List.getElem?_replicate, if_pos h]

/-- what is owned and all x may be kept -/
theorem kept_own {w : World} {B : Nat} {v : Value} {n : Nat} {x : List UInt8} (h : w.ownsRow B 9 1 v n (reps n x)) : KeptOk w v x := by
  rcases h.2 with ⟨rfl, rfl⟩ | ⟨g, cap, cur, rfl, hb, hg, r⟩
  · exact Or.inl rfl
  · exact Or.inr ⟨g, n, cap, rfl, (Array.getElem?_eq_some_iff.1 hg).1, fun i hi => by rw [h.cellAt i (by omega), reps_at hi]⟩

/-- the append finds room: the same block -/
theorem hold_fits {B : Nat} {w w1 : World} {gB g : Nat} {vT vN : Value} {next : Int} {K : List (Value × List UInt8)} {n m c cap : Nat} {x : List UInt8} {o : Obj}
    (h : Hold B w gB vT vN next K (.slice (some ⟨g, 0, none⟩) n cap) n c x) (hc : c ≤ n + m) (hcap : n + m ≤ cap)
    (ho : w1.ownsRow B 9 1 (.slice (some ⟨g, 0, none⟩) (n + m) cap) (n + m) (reps n x ++ reps m x)) (hg : (w.alloc o).grownBy w1 (some g)) :
    Hold B w1 gB vT vN next K (.slice (some ⟨g, 0, none⟩) n cap) n (n + m) x ∧ KeptOk w1 (.slice (some ⟨g, 0, none⟩) (n + m) cap) x ∧ ApartOf (.slice (some ⟨g, 0, none⟩) (n + m) cap) gB vT vN := by
  have er : reps n x ++ reps m x = reps (n + m) x := by unfold reps; rw [List.replicate_append_replicate]
  rw [er] at ho
  have hz : w.heap.size ≤ w1.heap.size := by have := hg.size; simp at this; omega
  have hap := h.apart g rfl
  have cells : ∀ i, i < n + m → w1.cell? ⟨g, i, none⟩ = some (.string (bs x)) := fun i hi => by rw [ho.cellAt i (by omega), reps_at hi]
  have glt : g < w1.heap.size := (own_lt ho rfl).2
  refine ⟨⟨?_, ?_, h.apart, fun e he g' h1 h2 => ?_⟩, kept_own ho, fun g' hg' => h.apart g' (by simpa [Value.ownBlock] using hg')⟩
  · refine h.book.other hz (fun k hk hs => ?_) (fun e he => ?_)
    · have hne : k ≠ g := by
        rcases hs with rfl | hs | hs
        · exact fun e => hap.1 e.symm
        · intro e; subst e; exact hap.2.1 hs
        · intro e; subst e; exact hap.2.2 hs
      rw [hg.block k (by simp; omega) (by simpa using hne), Below.heap_alloc _ _ _ hk]
    · have hk := (h.book.kept e he).1
      by_cases hb : e.1.ownBlock = some g
      · obtain ⟨e2, n', cap', ev, hn'⟩ := h.same e he g rfl hb
        rw [ev, e2]
        exact Or.inr ⟨g, n', cap', rfl, glt, fun i hi => cells i (by omega)⟩
      · exact hk.keep hz (fun g' hg' hlt => by
          have hne : g' ≠ g := fun e' => hb (by rw [hg', e'])
          rw [hg.block g' (by simp; omega) (by simpa using hne), Below.heap_alloc _ _ _ hlt])
  · rcases ho.2 with ⟨h0, _⟩ | ⟨g', cap', cur, hv, hb, hh, hnc, hcm, hcs, htake⟩
    · simp at h0
    · simp only [Value.slice.injEq, Option.some.injEq, Addr.mk.injEq, and_true, true_and] at hv
      obtain ⟨rfl, rfl⟩ := hv
      refine ⟨by simp [reps], Or.inr ⟨g, cap, cur, rfl, hb, hh, by omega, hcm, hcs, ?_⟩⟩
      have := congrArg (List.take (n * 1)) htake
      rw [List.take_take, Nat.min_eq_left (by omega)] at this
      rw [this]
      unfold reps
      rw [List.take_replicate, Nat.min_eq_left (by omega), Nat.mul_one]
  · obtain ⟨e2, n', cap', ev, hn'⟩ := h.same e he g' h1 h2
    exact ⟨e2, n', cap', ev, by omega⟩

/-- the append makes a new block -/
theorem hold_grows {B : Nat} {w w1 : World} {gB : Nat} {vT vN l v' : Value} {next : Int} {K : List (Value × List UInt8)} {n m c : Nat} {x : List UInt8} {o : Obj}
    (h : Hold B w gB vT vN next K l n c x) (ho : w1.ownsRow (w.alloc o).heap.size 9 1 v' (n + m) (reps n x ++ reps m x)) (hg : (w.alloc o).grownBy w1 none) :
    Hold B w1 gB vT vN next K l n c x ∧ KeptOk w1 v' x ∧ ApartOf v' gB vT vN ∧ (∀ g, l.ownBlock = some g → v'.ownBlock ≠ some g) := by
  have er : reps n x ++ reps m x = reps (n + m) x := by unfold reps; rw [List.replicate_append_replicate]
  rw [er] at ho
  have hbel : Below w.heap.size w w1 := ((Below.refl _ _).alloc (Nat.le_refl _) o).grown hg (by simp) (fun k hk => by cases hk)
  have new : ∀ g, v'.ownBlock = some g → w.heap.size < g := fun g e => by have := (own_lt ho e).1; simp at this; omega
  refine ⟨⟨h.book.grew hbel, own_keep h.own hbel, h.apart, h.same⟩, kept_own ho, fun g e => ?_, fun g e1 e2 => ?_⟩
  · have := new g e
    refine ⟨fun e' => ?_, fun e' => ?_, fun e' => ?_⟩
    · have := block_lt h.book.blk; omega
    · have := (own_lt h.book.oT e').2; omega
    · have := (own_lt h.book.oN e').2; omega
  · have := new g e2
    have := (own_lt h.own e1).2
    omega

/-- the book has taken a list in -/
theorem hold_keep {B : Nat} {w w1 : World} {gB : Nat} {vT vN vT' vN' l v : Value} {next : Int} {K : List (Value × List UInt8)} {n c : Nat} {x : List UInt8}
    (h : Hold B w gB vT vN next K l n c x) (hb : BookAt B w1 gB vT' vN' next (K ++ [(v, x)])) (hs : BookStep B w w1 gB vT vN vT' vN')
    (hv : ∀ g, l.ownBlock = some g → v.ownBlock = some g → ∃ n' cap', v = .slice (some ⟨g, 0, none⟩) n' cap' ∧ n' ≤ c) : Hold B w1 gB vT' vN' next (K ++ [(v, x)]) l n c x := by
  have hl : ∀ g, l.ownBlock = some g → w1.heap[g]? = w.heap[g]? := fun g e => hs.frame g (own_lt h.own e).2 (h.apart g e).1 (h.apart g e).2.1 (h.apart g e).2.2
  refine ⟨hb, ?_, fun g e => ⟨(h.apart g e).1, ?_, ?_⟩, fun e he g h1 h2 => ?_⟩
  · refine ⟨h.own.1, ?_⟩
    rcases h.own.2 with h2 | ⟨g, cap, cur, rfl, hg, hh, r⟩
    · exact Or.inl h2
    · exact Or.inr ⟨g, cap, cur, rfl, hg, by rw [hl g rfl]; exact hh, r⟩
  · rcases hs.tT with e' | ⟨g', e', hg'⟩
    · rw [e']; exact (h.apart g e).2.1
    · rw [e']; have := (own_lt h.own e).2; simp; omega
  · rcases hs.tN with e' | ⟨g', e', hg'⟩
    · rw [e']; exact (h.apart g e).2.2
    · rw [e']; have := (own_lt h.own e).2; simp; omega
  · rcases List.mem_append.1 he with h3 | h3
    · exact h.same e h3 g h1 h2
    · simp at h3; subst h3
      obtain ⟨n', cap', e1, e2⟩ := hv g h1 h2
      exact ⟨rfl, n', cap', e1, e2⟩

theorem Hold.more {B : Nat} {w : World} {gB : Nat} {vT vN l : Value} {next : Int} {K : List (Value × List UInt8)} {n c c' : Nat} {x : List UInt8} (h : Hold B w gB vT vN next K l n c x) (hc : c ≤ c') : Hold B w gB vT vN next K l n c' x :=
  ⟨h.book, h.own, h.apart, fun e he g a b => by obtain ⟨e1, n', cap', e2, e3⟩ := h.same e he g a b; exact ⟨e1, n', cap', e2, by omega⟩⟩

/-- an append of m marks to the list: wherever it lies then -/
theorem append_hold {B : Nat} {w0 : World} {gB : Nat} {vT vN l : Value} {next : Int} {K : List (Value × List UInt8)} {n c m : Nat} {x : List UInt8} (hH : Hold B w0 gB vT vN next K l n c x) (hc : c ≤ n + m) (hm : 0 < m) (hnm : n + m ≤ 1000000)
    {ops : Array Oper} {rest : List Oper} {o : Oper} {a : Act} {Q : Exit → Act → World → Prop} (hgd : o.guard = none) (s y : Operand)
    (ho : o.op = Op.call { callee := Callee.builtin Builtin.append, args := #[s, y], argTypes := #[31, 31] }) (hs : a.eval s = l) (cells : Array Value) (hcs : cells.toList = reps m x) (hy : a.eval y = .slice (some ⟨w0.heap.size, 0, none⟩) m m)
    (h : ∀ v' w', Hold B w' gB vT vN next K l n (n + m) x → KeptOk w' v' x → ApartOf v' gB vT vN → (∀ g, l.ownBlock = some g → v'.ownBlock = some g → ∃ n' cap', v' = .slice (some ⟨g, 0, none⟩) n' cap' ∧ n' ≤ n + m) → Below B w0 w' → (∃ ao cap, v' = .slice ao (n + m) cap) → wpList Tryz.prog ops Q rest (a.put o.dst v') w') :
    wpList Tryz.prog ops Q (o :: rest) a (w0.alloc (.cells cells 9)) := by
  obtain ⟨i1, ki, kz0, kz1, kz2⟩ := info_parts infoS
  have hB0 : B ≤ w0.heap.size := by have := block_lt hH.book.blk; have := hH.book.low; omega
  have hb0 : Below B w0 (w0.alloc (.cells cells 9)) := (Below.refl _ _).alloc hB0 _
  have hnews : ∀ j u, (reps m x)[j]? = some u → (w0.alloc (.cells cells 9)).cell? ((⟨w0.heap.size, 0, none⟩ : Addr).add j) = some u := by
    intro j u hj
    rw [show ((⟨w0.heap.size, 0, none⟩ : Addr).add j) = ⟨w0.heap.size, j, none⟩ by simp [Addr.add]; omega, block_cell (heap_alloc_new w0 _) j, ← hj, ← hcs]
    simp
  have hlen : (reps m x).length = m * 1 := by simp [reps]
  have honec : ∀ u ∈ reps m x, u.oneCell' = true := by
    intro u hu
    unfold reps at hu
    obtain ⟨_, rfl⟩ := List.mem_replicate.1 hu
    rfl
  have grows : ∀ ao cap, l = .slice ao n cap → (ao = none → n = 0 ∧ cap = 0) → cap < n + m → (∀ b, ao = some b → ∀ j u, (reps n x)[j]? = some u → (w0.alloc (.cells cells 9)).cell? (b.add j) = some u) →
      wpList Tryz.prog ops Q (o :: rest) a (w0.alloc (.cells cells 9)) := by
    intro ao cap hl hnone hfull hold
    refine wpList_append_grows (P := Tryz.prog) _ hgd s y 31 ho 9 i1 (.string ⟨#[]⟩) 1 16 Tryz.underlying31 ki kz0 kz1 kz2 rfl (by decide) ao n cap (reps n x) (hs.trans hl) hnone (by simp [reps]) hold ⟨w0.heap.size, 0, none⟩ m m (reps m x) hy hlen hnews honec hfull (by unfold maxLen; omega) (by omega) ?_
    intro v' w' ho' hg'
    obtain ⟨r1, r2, r3, r4⟩ := hold_grows hH ho' hg'
    exact h v' w' (r1.more hc) r2 r3 (fun g e1 e2 => absurd e2 (r4 g e1)) (hb0.grown hg' (by simp; omega) (fun k hk => by cases hk)) (own_slice ho')
  rcases hH.own.2 with ⟨hl, hn0⟩ | ⟨g, cap, cur, hl, hb, hg, hnc, r⟩
  · subst hn0
    exact grows none 0 hl (fun _ => ⟨rfl, rfl⟩) (by omega) (fun b hb => by cases hb)
  · by_cases hfit : n + m ≤ cap
    · subst hl
      refine wpList_append_fits (P := Tryz.prog) _ hgd s y 31 ho B 9 i1 1 Tryz.underlying31 ki kz1 g n cap (reps n x) hs (hH.own.alloc _) ⟨w0.heap.size, 0, none⟩ m m (reps m x) hy hlen hnews honec hfit ?_
      intro w' ho' hg'
      obtain ⟨r1, r2, r3⟩ := hold_fits hH hc hfit ho' hg'
      exact h _ w' r1 r2 r3 (fun g' e1 e2 => by simp [Value.ownBlock] at e1; subst e1; exact ⟨n + m, cap, rfl, Nat.le_refl _⟩) (hb0.grown hg' (by simp; omega) (fun k hk => by simp at hk; subst hk; exact hb)) ⟨_, _, rfl⟩
    · refine grows (some ⟨g, 0, none⟩) cap hl (fun e => by cases e) (by omega) (fun b hb' j u hj => ?_)
      simp at hb'
      subst hb'
      have hjn : j < n := by have := (List.getElem?_eq_some_iff.1 hj).1; simpa [reps] using this
      subst hl
      rw [show ((⟨g, 0, none⟩ : Addr).add j) = ⟨g, j, none⟩ by simp [Addr.add]; omega, (hH.own.alloc _).cellAt j (by omega)]
      exact hj

end Go.Proofs.YtgpojbgjfibblabGreat.texts

namespace Go.Proofs.YtgpojbgjfibblabGreat.texts
open Go.RowKit
set_option linter.unusedVariables false
attribute [local go_sem] bs_size bs_append List.length_append bs_list bs_toList bs_extract

/-- the lists of the book are short -/
def Shorts (K : List (Value × List UInt8)) : Prop := ∀ e ∈ K, ∃ ao n cap, e.1 = .slice ao n cap ∧ n ≤ 1000000
theorem Shorts.add {K : List (Value × List UInt8)} {v : Value} {x : List UInt8} (h : Shorts K) (hv : ∃ ao n cap, v = .slice ao n cap ∧ n ≤ 1000000) : Shorts (K ++ [(v, x)]) := by
  intro e he
  rcases List.mem_append.1 he with h1 | h1
  · exact h e h1
  · simp at h1; subst h1; exact hv

/-- the list is written full, one place more -/
theorem fill_set (xs : List Value) (k n : Nat) (x : List UInt8) (hk : k < n) (hn : xs.length = n) : (reps k x ++ xs.drop k).set k (.string (bs x)) = reps (k + 1) x ++ xs.drop (k + 1) := by
  have hr : (reps k x).length = k := by simp [reps]
  rw [List.set_append_right _ _ (by omega), hr, Nat.sub_self]
  have hd : xs.drop k = xs[k]'(by omega) :: xs.drop (k + 1) := List.drop_eq_getElem_cons (by omega)
  rw [hd, List.set_cons_zero]
  have e2 : reps (k + 1) x = reps k x ++ [.string (bs x)] := by unfold reps; rw [List.replicate_succ']
  rw [e2, List.append_assoc]; rfl
theorem fill_book {B : Nat} {w : World} {gB g : Nat} {vT vN : Value} {next : Int} {K : List (Value × List UInt8)} (h : BookAt B w gB vT vN next K) (hl : g ≠ gB ∧ vT.ownBlock ≠ some g ∧ vN.ownBlock ≠ some g) (hk : ∀ e ∈ K, e.1.ownBlock ≠ some g) (i : Nat) (v : Value) :
    BookAt B (w.setCell ⟨g, i, none⟩ v) gB vT vN next K := by
  have st : ∀ k, k ≠ g → (w.setCell ⟨g, i, none⟩ v).heap[k]? = w.heap[k]? := fun k hk => Below.heap_setCell _ _ _ _ (by simpa using hk)
  refine h.other (by simp) (fun k _ hs => st k ?_) (fun e he => (h.kept e he).1.keep (by simp) (fun g' hg' _ => st g' (fun e' => hk e he (by rw [hg', e']))))
  rcases hs with rfl | hs | hs
  · exact fun e => hl.1 e.symm
  · intro e; subst e; exact hl.2.1 hs
  · intro e; subst e; exact hl.2.2 hs

set_option maxRecDepth 100000 in
set_option maxHeartbeats 4000000 in
theorem holds_any (B : Nat) (w : World) (gB : Nat) (vT vN : Value) (next : Int) (K : List (Value × List UInt8)) (l : Value) (n : Nat) (xs : List Value) (hK : BookAt B w gB vT vN next K) (hlen : K.length ≤ 536870912) (h0 : -536870912 ≤ next) (h1 : next ≤ 536870912)
    (hl : w.ownsRow B 9 1 l n xs) (hn : n ≤ 8) (hap : ApartOf l gB vT vN) (hkl : ∀ e ∈ K, ∀ g, l.ownBlock = some g → e.1.ownBlock ≠ some g) :
    Calls Tryz.prog 40 #[.pointer (some ⟨gB, 0, none⟩), l] w fun e w' => e = .returned (.tuple #[]) ∧ ∃ vT' vN' K', BookAt B w' gB vT' vN' (next - 1) K' ∧ K'.length = K.length + 4 ∧ (Shorts K → Shorts K') ∧ Below B w w' := by
  obtain ⟨i1, ki, kz0, kz1, kz2⟩ := info_parts infoS
  obtain ⟨ao, cap, rfl⟩ := own_slice hl
  have HK := hide hK
  have HL := hide hl
  have HAP := hide hap
  have HKL := hide hkl
  have hlow := hK.low
  have hxs := hide hl.1
  clear hK hl hap hkl
  go_enter Tryz.func40, Tryz.ntmps40
  go_wp2_with fail
  refine (mark_any B w gB vT vN next K (unhide HK) (by omega) (by omega)).mono ?_
  rintro e w1 ⟨rfl, hw1⟩
  have k1 : BookAt B w1 gB vT vN (next - 1) K := by rw [hw1]; exact mark_book (unhide HK) _
  have l1 : w1.ownsRow B 9 1 (.slice ao n cap) n xs := by rw [hw1]; exact ownsRow_setCell_other (unhide HL) (fun e => (unhide HAP gB e).1 rfl) _
  have b1 : Below B w w1 := by rw [hw1]; exact (Below.refl B w).setCell hlow _
  have B1 := hide b1
  have K1 := hide k1
  have L1 := hide l1
  clear hw1 k1 l1 b1 HK HL
  go_wp2_with fail
  refine (name_any _ _ (by omega) (by omega)).mono ?_
  rintro e w2 ⟨x, rfl, hb2⟩
  have K2 := hide ((unhide K1).grew hb2)
  have L2 := hide (own_keep (unhide L1) hb2)
  have hBw1 : B ≤ w1.heap.size := by have := block_lt (unhide K1).blk; omega
  have B2 := hide ((unhide B1).trans (hb2.mono hBw1))
  clear hb2 K1 L1 B1 hBw1
  go_wp2_with fail
  go_loopw [5] (fun i wr => ∃ k : Nat, k ≤ n ∧ i = .int .i64 k ∧ wr.ownsRow B 9 1 (.slice ao n cap) n (reps k x ++ xs.drop k) ∧ BookAt B wr gB vT vN (next - 1) K ∧ Below B w wr) (fun i _ => n - (intOf i).toNat)
  case atStart => exact ⟨0, by omega, rfl, by simpa [reps] using unhide L2, unhide K2, unhide B2⟩
  case round =>
    obtain ⟨k, hk, rfl, hown, hbook, hbel⟩ := hrel
    clear K2 L2 B2
    by_cases hlt : k < n
    · obtain ⟨g, rfl⟩ : ∃ g, ao = some ⟨g, 0, none⟩ := by
        rcases hown.2 with ⟨h3, h4⟩ | ⟨g, cap', cur, h3, _⟩
        · omega
        · simp at h3; exact ⟨g, h3.1⟩
      have hxl : xs.length = n := by have := unhide hxs; omega
      have hc : ∃ u, w.cell? ⟨0, 0, none⟩ = u := ⟨_, rfl⟩
      obtain ⟨u0, hcell⟩ : ∃ u0, wr.cell? ⟨g, k, none⟩ = some u0 := by
        rw [hown.cellAt k (by omega)]
        exact ⟨_, List.getElem?_eq_getElem (by simp [reps]; omega)⟩
      have hfz := hown.frozenAt k
      have hst := hide ((hown.stored k (.string (bs x))).1)
      rw [fill_set xs k n x hlt hxl] at hst
      have hge := hide (own_lt hown rfl).1
      have KB := hide (fill_book hbook (unhide HAP g rfl) (fun e he => unhide HKL e he g rfl) k (.string (bs x)))
      have BB := hide hbel
      clear hown hbook hbel hc
      go_wp2
      go_roundw
      case rel => exact ⟨k + 1, by omega, by go_num, unhide hst, unhide KB, (unhide BB).setCell (p := ⟨g, k, none⟩) (unhide hge) _⟩
      case measure => simp [intOf]; omega
    · have e : n = k := by omega
      subst e
      have hd : xs.drop n = [] := List.drop_of_length_le (by have := unhide hxs; omega)
      rw [hd, List.append_nil] at hown
      have H0 : Hid (Hold B wr gB vT vN (next - 1) K (.slice ao n cap) n n x) := ⟨hbook, hown, unhide HAP, fun e he g a1 a2 => absurd a2 (unhide HKL e he g a1)⟩
      have BB := hide hbel
      clear hown hbook hbel hd
      go_wp2_with fail
      refine (keeps_any B wr gB vT vN _ K _ x (unhide H0).book (by omega) (kept_own (unhide H0).own) (unhide H0).apart).mono ?_
      rintro e w3 ⟨rfl, vT3, vN3, hb3, hs3⟩
      have H3 := hide (hold_keep (unhide H0) hb3 hs3 (fun g a1 a2 => by simp [Value.ownBlock] at a1; rcases (unhide H0).own.2 with ⟨h3, h4⟩ | ⟨g', cap', cur, h3, _⟩ <;> simp at h3 <;> simp_all))
      have B3 := hide ((unhide BB).trans hs3.below)
      clear hb3 hs3 H0 BB
      go_wp2_with (at_builtin; refine append_hold (m := 1) (unhide H3) (by omega) (by omega) (by omega) rfl _ _ rfl rfl _ rfl rfl ?_; rintro v4 w4 h4 k4 a4 p4 b4 ⟨ao4, cap4, rfl⟩; have H4 := hide h4; have KK4 := hide k4; have AA4 := hide a4; have PP4 := hide p4; have B4 := hide (Below.trans (unhide B3) b4); clear h4 k4 a4 p4 b4)
      clear H3 B3
      refine (keeps_any B w4 gB _ _ _ _ _ x (unhide H4).book (by simp; omega) (unhide KK4) (unhide AA4)).mono ?_
      rintro e w5 ⟨rfl, vT5, vN5, hb5, hs5⟩
      have H5 := hide (hold_keep (unhide H4) hb5 hs5 (unhide PP4))
      have B5 := hide ((unhide B4).trans hs5.below)
      clear hb5 hs5 H4 KK4 AA4 PP4 B4
      go_wp2_with (at_builtin; refine append_hold (m := 2) (unhide H5) (by omega) (by omega) (by omega) rfl _ _ rfl rfl _ rfl rfl ?_; rintro v6 w6 h6 k6 a6 p6 b6 ⟨ao6, cap6, rfl⟩; have H6 := hide h6; have KK6 := hide k6; have AA6 := hide a6; have PP6 := hide p6; have B6 := hide (Below.trans (unhide B5) b6); clear h6 k6 a6 p6 b6)
      clear H5 B5
      refine (keeps_any B w6 gB _ _ _ _ _ x (unhide H6).book (by simp; omega) (unhide KK6) (unhide AA6)).mono ?_
      rintro e w7 ⟨rfl, vT7, vN7, hb7, hs7⟩
      have H7 := hide (hold_keep (unhide H6) hb7 hs7 (unhide PP6))
      have B7 := hide ((unhide B6).trans hs7.below)
      clear hb7 hs7 H6 KK6 AA6 PP6 B6
      go_wp2_with (at_builtin; refine append_hold (m := 3) (unhide H7) (by omega) (by omega) (by omega) rfl _ _ rfl rfl _ rfl rfl ?_; rintro v8 w8 h8 k8 a8 p8 b8 ⟨ao8, cap8, rfl⟩; have H8 := hide h8; have KK8 := hide k8; have AA8 := hide a8; have PP8 := hide p8; have B8 := hide (Below.trans (unhide B7) b8); clear h8 k8 a8 p8 b8)
      clear H7 B7
      refine (keeps_any B w8 gB _ _ _ _ _ x (unhide H8).book (by simp; omega) (unhide KK8) (unhide AA8)).mono ?_
      rintro e w9 ⟨rfl, vT9, vN9, hb9, hs9⟩
      have H9 := hide (hold_keep (unhide H8) hb9 hs9 (unhide PP8))
      have B9 := hide ((unhide B8).trans hs9.below)
      clear hb9 hs9 H8 KK8 AA8 PP8 B8
      go_wp2
      go_end0
      exact ⟨rfl, _, _, _, (unhide H9).book, by simp, fun hs => (((hs.add ⟨_, _, _, rfl, by omega⟩).add ⟨_, _, _, rfl, by omega⟩).add ⟨_, _, _, rfl, by omega⟩).add ⟨_, _, _, rfl, by omega⟩, unhide B9⟩

end Go.Proofs.YtgpojbgjfibblabGreat.texts

namespace Go.Proofs.YtgpojbgjfibblabGreat.texts
open Go.RowKit
set_option linter.unusedVariables false
attribute [local go_sem] bs_size bs_append List.length_append bs_list bs_toList bs_extract

/-- what the book holds at a place -/
theorem book_at {B : Nat} {w : World} {gB : Nat} {vT vN : Value} {next : Int} {K : List (Value × List UInt8)} (h : BookAt B w gB vT vN next K) (hS : Shorts K) {k : Nat} (hk : k < K.length) :
    ∃ gT cT gN cN ao n cap g x, vT = .slice (some ⟨gT, 0, none⟩) K.length cT ∧ vN = .slice (some ⟨gN, 0, none⟩) K.length cN ∧ n ≤ 1000000 ∧ w.cell? ⟨gT, k, none⟩ = some (.slice ao n cap) ∧ w.cell? ⟨gN, k, none⟩ = some (.string (bs x))
      ∧ (0 < n → ao = some ⟨g, 0, none⟩) ∧ ∀ i, i < n → w.cell? ⟨g, i, none⟩ = some (.string (bs x)) := by
  have hm : K[k] ∈ K := List.getElem_mem _
  obtain ⟨ao, n, cap, he, hn⟩ := hS _ hm
  have hkp := (h.kept _ hm).1
  rcases h.oT.2 with ⟨_, h0⟩ | ⟨gT, cT, curT, rfl, _⟩
  · omega
  rcases h.oN.2 with ⟨_, h0⟩ | ⟨gN, cN, curN, rfl, _⟩
  · omega
  have ct : w.cell? ⟨gT, k, none⟩ = some (.slice ao n cap) := by
    rw [h.oT.cellAt k (by omega), List.getElem?_map, List.getElem?_eq_getElem hk]; simp [he]
  have cn : w.cell? ⟨gN, k, none⟩ = some (.string (bs K[k].2)) := by
    rw [h.oN.cellAt k (by omega), List.getElem?_map, List.getElem?_eq_getElem hk]; simp
  rcases hkp with e | ⟨g, n', cap', e, hg, hc⟩
  · rw [he] at e
    simp at e
    exact ⟨gT, cT, gN, cN, ao, n, cap, 0, _, rfl, rfl, hn, ct, cn, fun h => by omega, fun i hi => by omega⟩
  · rw [he] at e
    simp at e
    obtain ⟨rfl, rfl, rfl⟩ := e
    exact ⟨gT, cT, gN, cN, _, n, cap, g, _, rfl, rfl, hn, ct, cn, fun _ => rfl, hc⟩

set_option maxRecDepth 100000 in
set_option maxHeartbeats 4000000 in
theorem looks_any (B : Nat) (w : World) (gB : Nat) (vT vN : Value) (next : Int) (K : List (Value × List UInt8)) (hK : BookAt B w gB vT vN next K) (hS : Shorts K) (hlen : K.length ≤ 1073741824) :
    Calls Tryz.prog 8 #[.pointer (some ⟨gB, 0, none⟩)] w fun e w' => e = .returned (.bool true) ∧ Below w.heap.size w w' := by
  have c0 : w.cell? ⟨gB, 0, none⟩ = some (.slice none 0 0) := block_cell hK.blk 0
  have c1 : w.cell? ⟨gB, 1, none⟩ = some vT := block_cell hK.blk 1
  have c3 : w.cell? ⟨gB, 3, none⟩ = some vN := block_cell hK.blk 3
  obtain ⟨aT, cT, rfl⟩ := own_slice hK.oT
  obtain ⟨aN, cN, rfl⟩ := own_slice hK.oN
  have HK := hide hK
  have HS := hide hS
  have H0 := hide c0
  have H1 := hide c1
  have H3 := hide c3
  clear hK hS c0 c1 c3
  go_enter Tryz.func8, Tryz.ntmps8
  go_wp2_with fail
  go_loopw [3] (fun i wr => i = .int .i64 0 ∧ Below w.heap.size w wr) (fun i _ => 0)
  case atStart => exact ⟨rfl, Below.refl _ _⟩
  case round =>
    obtain ⟨rfl, hb⟩ := hrel
    have c0 := keep_cell (unhide H0) hb
    have HB := hide hb
    clear hb
    go_wp2_with fail
    go_loopw [6] (fun i wr => ∃ k : Nat, k ≤ K.length ∧ i = .int .i64 k ∧ Below w.heap.size w wr) (fun i _ => K.length - (intOf i).toNat)
    case atStart => exact ⟨0, by omega, rfl, unhide HB⟩
    case round =>
      clear c0 HB
      obtain ⟨k, hk, rfl, hb⟩ := hrel
      have c1 := keep_cell (unhide H1) hb
      by_cases hlt : k < K.length
      · obtain ⟨gT, cT', gN, cN', ao, n, cap, g, x, e1, e2, hn, ct, cn, hao, hc⟩ := book_at (unhide HK) (unhide HS) hlt
        simp only [Value.slice.injEq, true_and] at e1 e2
        obtain ⟨rfl, rfl⟩ := e1
        obtain ⟨rfl, rfl⟩ := e2
        have HA := hide hao
        have HC := hide hc
        have CT := hide ct
        have CN := hide cn
        have HB := hide hb
        clear hao hc ct cn hb
        go_wp2_with fail
        go_loopw [7] (fun i wr => ∃ j : Nat, j ≤ n ∧ i = .int .i64 j ∧ Below w.heap.size w wr) (fun i _ => n - (intOf i).toNat)
        case atStart => exact ⟨0, by omega, rfl, unhide HB⟩
        case round =>
          clear c1 HB
          obtain ⟨j, hj, rfl, hb⟩ := hrel
          have c1 := keep_cell (unhide H1) hb
          have ct := keep_cell (unhide CT) hb
          by_cases hjn : j < n
          · obtain rfl := unhide HA (by omega)
            have ck := keep_cell (unhide HC j hjn) hb
            have c3 := keep_cell (unhide H3) hb
            have cn := keep_cell (unhide CN) hb
            have HB := hide hb
            clear hb
            go_wp2_with fail
            go_quiet (fail)
            all_goals go_wp2
            all_goals go_roundw
            case rel => exact ⟨j + 1, by omega, by go_num, below_drewN (unhide HB) _⟩
            case measure => simp [intOf]; omega
          · have HB := hide hb
            clear hb
            go_wp2_with fail
            go_roundw
            case rel => exact ⟨k + 1, by omega, by go_num, unhide HB⟩
            case measure => simp [intOf]; omega
      · have e : k = K.length := by omega
        subst e
        have HB := hide hb
        clear hb
        go_wp2_with fail
        go_ret
        exact ⟨rfl, unhide HB⟩

end Go.Proofs.YtgpojbgjfibblabGreat.texts
