/-
  The walk of the program's header as bytes (package wire): Header. A sender in plain numbers: states, contexts, what a packet makes of them, its frame. Plain functions on lists of frames: the length that is told, Join, the first frame of a text, Split. Lists of texts in memory; the walks of the document's told and Join (package gistref). The walks of the document's first and Split (package gistref).
  Conditions stand in each theorem.
-/
import Derived.Test.YtgpojbgjfibblaaGreatPart3
import Derived.Test.YtgpojbgjfibblaaGreatPart2
import Derived.Deep.QuietTactic
import Derived.BigQuiet
namespace Go.Proofs.YtgpojbgjfibblaaGreat.texts
open Go.RowKit
set_option linter.unusedVariables false
attribute [local go_sem ↓] Go.wp_at_zero Go.wp_at_succ
attribute [local go_sem] bs_size be_length bs_append List.length_append

/-- a packet's cells lie in a block of their own, and nothing below has changed -/
structure PkAt (w : World) (p : Pk) (w' : World) : Prop where
  src : w'.cell? ⟨w.heap.size, 0, none⟩ = some (.int .u32 p.src)
  dst : w'.cell? ⟨w.heap.size, 1, none⟩ = some (.int .u32 p.dst)
  port : w'.cell? ⟨w.heap.size, 2, none⟩ = some (.int .u16 p.port)
  seq : w'.cell? ⟨w.heap.size, 3, none⟩ = some (.int .u16 p.seq)
  time : w'.cell? ⟨w.heap.size, 4, none⟩ = some (.int .u32 p.time)
  id : w'.cell? ⟨w.heap.size, 5, none⟩ = some (.int .u16 p.id)
  flags : w'.cell? ⟨w.heap.size, 6, none⟩ = some (.int .u8 p.flags)
  body : w'.cell? ⟨w.heap.size, 7, none⟩ = some (.string (bs p.body))
  below : Below w.heap.size w w'
theorem PkAt.call {w w1 w2 : World} {p : Pk} (h : PkAt w p w1) (hb : Below w1.heap.size w1 w2) : PkAt w p w2 :=
  ⟨keep_cell h.src hb, keep_cell h.dst hb, keep_cell h.port hb, keep_cell h.seq hb, keep_cell h.time hb, keep_cell h.id hb, keep_cell h.flags hb, keep_cell h.body hb, h.below.trans (hb.mono h.below.size)⟩
theorem PkAt.start (w : World) (p : Pk) : PkAt w p (w.alloc (.cells p.cells 41)) :=
  ⟨by simp [Pk.cells], by simp [Pk.cells], by simp [Pk.cells], by simp [Pk.cells], by simp [Pk.cells], by simp [Pk.cells], by simp [Pk.cells], by simp [Pk.cells], (Below.refl _ _).alloc (Nat.le_refl _) _⟩
theorem PkAt.drew {w w1 : World} {p : Pk} (h : PkAt w p w1) : PkAt w p w1.drew :=
  ⟨h.src, h.dst, h.port, h.seq, h.time, h.id, h.flags, h.body, h.below.drew⟩

set_option maxRecDepth 100000 in
set_option maxHeartbeats 1000000 in
theorem wfields_any (p : Pk) (w : World) (hp : p.ok) :
    Calls Tryz.prog 125 #[.agg p.cells] w fun e w' => e = .returned (.string (bs (restL p))) ∧ Below w.heap.size w w' := by
  obtain ⟨h1, h2, h3, h4, h5, h6, h7⟩ := hp
  unfold Pk.cells
  go_enter Tryz.func125, Tryz.ntmps125
  go_wp2_with fail
  go_region_held3 (fun w' => w'.cell? ⟨w.heap.size, 3, none⟩ = some (.int .u16 p.seq) ∧ w'.cell? ⟨w.heap.size, 4, none⟩ = some (.int .u32 p.time) ∧ w'.cell? ⟨w.heap.size, 5, none⟩ = some (.int .u16 p.id) ∧ w'.cell? ⟨w.heap.size, 6, none⟩ = some (.int .u8 p.flags) ∧ Below w.heap.size w w' ∧ w.heap.size ≤ w'.heap.size)
    (first | (go_keep; done) | (refine ⟨by simp, by simp, by simp, by simp, ((Below.refl _ _).alloc (Nat.le_refl _) _).drew, by simp⟩) | (go_split_ands; exact ⟨keep_cell (by assumption) hbel, keep_cell (by assumption) hbel, keep_cell (by assumption) hbel, keep_cell (by assumption) hbel, keep_below (by assumption) hbel (by assumption), Nat.le_trans (by assumption) hbel.size⟩))
    ((first | (go_at_call 135; refine (text32_any _ _ (by omega) (by omega)).mono ?_; rintro e w' ⟨rfl, hbel⟩) | (go_at_call 124; refine (text16_any _ _ (by omega) (by omega)).mono ?_; rintro e w' ⟨rfl, hbel⟩) | (go_at_call 107; refine (text8_any _ _ (by omega) (by omega)).mono ?_; rintro e w' ⟨rfl, hbel⟩)))
  all_goals go_split_ands
  all_goals go_wp2
  all_goals go_ret
  all_goals exact ⟨ret_str (by simp [restL]), by assumption⟩

set_option maxRecDepth 100000 in
set_option maxHeartbeats 1000000 in
theorem wheader_any (p : Pk) (w : World) (hp : p.ok) :
    Calls Tryz.prog 122 #[.agg p.cells] w fun e w' => e = .returned (.string (bs (hdrL p))) ∧ Below w.heap.size w w' := by
  have hrl : (restL p).length = 9 := by simp [restL, be_length]
  have hp' := hide hp
  obtain ⟨h1, h2, h3, h4, h5, h6, h7⟩ := hp
  unfold Pk.cells
  go_enter Tryz.func122, Tryz.ntmps122
  go_wp2_with fail
  go_region_held3 (fun w' => w'.cell? ⟨w.heap.size, 0, none⟩ = some (.int .u32 p.src) ∧ w'.cell? ⟨w.heap.size, 1, none⟩ = some (.int .u32 p.dst) ∧ w'.cell? ⟨w.heap.size, 2, none⟩ = some (.int .u16 p.port) ∧ w'.cell? ⟨w.heap.size, 3, none⟩ = some (.int .u16 p.seq) ∧ w'.cell? ⟨w.heap.size, 4, none⟩ = some (.int .u32 p.time) ∧ w'.cell? ⟨w.heap.size, 5, none⟩ = some (.int .u16 p.id) ∧ w'.cell? ⟨w.heap.size, 6, none⟩ = some (.int .u8 p.flags) ∧ w'.cell? ⟨w.heap.size, 7, none⟩ = some (.string (bs p.body)) ∧ Below w.heap.size w w' ∧ w.heap.size ≤ w'.heap.size)
    (first | (go_keep; done) | (refine ⟨by simp, by simp, by simp, by simp, by simp, by simp, by simp, by simp, ((Below.refl _ _).alloc (Nat.le_refl _) _).drew, by simp⟩) | (go_split_ands; exact ⟨keep_cell (by assumption) hbel, keep_cell (by assumption) hbel, keep_cell (by assumption) hbel, keep_cell (by assumption) hbel, keep_cell (by assumption) hbel, keep_cell (by assumption) hbel, keep_cell (by assumption) hbel, keep_cell (by assumption) hbel, keep_below (by assumption) hbel (by assumption), Nat.le_trans (by assumption) hbel.size⟩))
    ((first | (go_at_call 135; refine (text32_any _ _ (by omega) (by omega)).mono ?_; rintro e w' ⟨rfl, hbel⟩) | (go_at_call 124; refine (text16_any _ _ (by omega) (by omega)).mono ?_; rintro e w' ⟨rfl, hbel⟩)))
  all_goals go_split_ands
  all_goals go_wp2_with (go_at_call 125; refine (wfields_any p _ hp'.out).mono ?_; rintro e w2 ⟨rfl, hbel2⟩)
  all_goals go_ret
  all_goals exact ⟨ret_str (by simp [hdrL, headL, restL]), keep_below (by assumption) hbel2 (by assumption)⟩

end Go.Proofs.YtgpojbgjfibblaaGreat.texts

namespace Go.Proofs.YtgpojbgjfibblaaGreat.texts
open Go.RowKit
set_option linter.unusedVariables false

/-- a flow's state -/
structure St where
  seq : Nat
  stride : Nat
  offset : Nat
  lag : Nat
  flags : Nat
structure St.ok (s : St) : Prop where
  seq : s.seq < 65536
  stride : s.stride < 65536
  offset : s.offset < 65536
  lag : s.lag < 4294967296
  flags : s.flags < 256
def St.zero : St := ⟨0, 0, 0, 0, 0⟩
theorem St.zero_ok : St.zero.ok := ⟨by decide, by decide, by decide, by decide, by decide⟩
/-- its cells, as the program's and as the document's -/
def St.cells (s : St) : Array Value := #[.int .u16 s.seq, .int .u16 s.stride, .int .u16 s.offset, .int .u32 s.lag, .int .u8 s.flags]
def St.flat (s : St) : Array Value := #[.int .i64 s.seq, .int .i64 s.stride, .int .i64 s.offset, .int .i64 s.lag, .int .i64 s.flags]

theorem way_lt {a b : Nat} (ha : a < 65536) (hb : b < 65536) : a * b < 4294967296 := by
  have h : a * b ≤ 65535 * 65535 := Nat.mul_le_mul (by omega) (by omega)
  omega

/-- the Time of the packet that left a state -/
def timeN (s : St) : Nat := (s.lag + s.stride * s.seq) % 4294967296
theorem timeN_lt (s : St) : timeN s < 4294967296 := Nat.mod_lt _ (by decide)
/-- the state that a packet leaves -/
def stateN (p : Pk) (stride : Nat) : St := ⟨p.seq, stride, (p.id + 65536 - p.seq) % 65536, (p.time + 4294967296 - stride * p.seq) % 4294967296, p.flags⟩
theorem stateN_ok {p : Pk} (hp : p.ok) {stride : Nat} (h : stride < 65536) : (stateN p stride).ok :=
  ⟨hp.seq, h, Nat.mod_lt _ (by decide), Nat.mod_lt _ (by decide), hp.flags⟩
theorem timeN_stateN {p : Pk} (hp : p.ok) {stride : Nat} (h : stride < 65536) : timeN (stateN p stride) = p.time := by
  have h1 := way_lt h hp.seq
  have h2 := hp.time
  unfold timeN stateN
  simp only
  generalize stride * p.seq = x at *
  omega

/-- the kind of frame by which a receiver at one state learns the next -/
def needsN (n r : St) : Nat :=
  if n.stride = r.stride ∧ n.flags = r.flags then
    if n.offset = r.offset ∧ n.lag = r.lag ∧ bits.fitR 16 n.seq r.seq 4 1 = true then 0
    else if bits.fitR 16 n.seq r.seq 8 1 = true ∧ bits.fitR 16 n.offset r.offset 8 128 = true ∧ bits.fitR 32 n.lag r.lag 8 128 = true then 1 else 2
  else 2
theorem needsN_le (n r : St) : needsN n r ≤ 2 := by unfold needsN; split <;> (try split) <;> (try split) <;> omega

/-- what a sender keeps of a flow -/
structure Cx where
  src : Nat
  dst : Nat
  port : Nat
  turn : Nat
  count : Int
  rank : Nat
  whole : Nat
  full : Nat
  age : Nat
  s0 : St
  s1 : St
  s2 : St
  s3 : St
  kept : Nat
structure Cx.ok (c : Cx) : Prop where
  src : c.src < 4294967296
  dst : c.dst < 4294967296
  port : c.port < 65536
  turn : c.turn < 4
  count : True
  rank : c.rank ≤ 8
  whole : c.whole ≤ 4
  full : c.full ≤ 4
  age : c.age < 4611686018427387904
  s0 : c.s0.ok
  s1 : c.s1.ok
  s2 : c.s2.ok
  s3 : c.s3.ok
  kept : c.kept ≤ 4
def Cx.cells (c : Cx) : Array Value := #[.int .u32 c.src, .int .u32 c.dst, .int .u16 c.port, .int .u8 c.turn, .int .i64 c.count, .int .i64 c.rank, .int .i64 c.whole, .int .i64 c.full, .int .i64 c.age,
  .int .u16 c.s0.seq, .int .u16 c.s0.stride, .int .u16 c.s0.offset, .int .u32 c.s0.lag, .int .u8 c.s0.flags,
  .int .u16 c.s1.seq, .int .u16 c.s1.stride, .int .u16 c.s1.offset, .int .u32 c.s1.lag, .int .u8 c.s1.flags,
  .int .u16 c.s2.seq, .int .u16 c.s2.stride, .int .u16 c.s2.offset, .int .u32 c.s2.lag, .int .u8 c.s2.flags,
  .int .u16 c.s3.seq, .int .u16 c.s3.stride, .int .u16 c.s3.offset, .int .u32 c.s3.lag, .int .u8 c.s3.flags, .int .i64 c.kept]
def Cx.sts (c : Cx) : List St := [c.s0, c.s1, c.s2, c.s3].take c.kept
/-- a context that has had no flow yet -/
def Cx.blank : Cx := ⟨0, 0, 0, 0, 0, 8, 0, 0, 0, St.zero, St.zero, St.zero, St.zero, 0⟩
theorem Cx.blank_ok : Cx.blank.ok := ⟨by decide, by decide, by decide, by decide, by decide, by decide, by decide, by decide, by decide, St.zero_ok, St.zero_ok, St.zero_ok, St.zero_ok, by decide⟩

def Cx.hasB (c : Cx) (a b d : Nat) : Bool := decide (0 < c.kept ∧ c.src = a ∧ c.dst = b ∧ c.port = d)
def strideN (c : Cx) (p : Pk) : Nat :=
  if c.kept = 0 then 0 else if (c.s0.seq + 1) % 65536 = p.seq then (p.time + 4294967296 - timeN c.s0) % 65536 else c.s0.stride
theorem strideN_lt {c : Cx} (hc : c.ok) (p : Pk) : strideN c p < 65536 := by
  unfold strideN
  split
  · omega
  · split
    · omega
    · exact hc.s0.stride
def leastN (c : Cx) (n : St) : Nat := c.sts.foldl (fun k r => max k (needsN n r)) 0
def kindN (c : Cx) (n : St) (refresh : Nat) : Nat := if 0 < c.whole ∨ refresh ≤ c.age + 1 then 3 else if 0 < c.full then 2 else leastN c n
def beginN (c : Cx) (a b d keep : Nat) : Cx := ⟨a, b, d, if 0 < c.kept then (c.turn + 1) % 4 else c.turn, 0, c.rank, keep, 0, 0, St.zero, St.zero, St.zero, St.zero, 0⟩
def addN (c : Cx) (n : St) (keep : Nat) : Cx := ⟨c.src, c.dst, c.port, c.turn, c.count, c.rank, c.whole, c.full, c.age, n, if 1 < keep then c.s0 else c.s1, if 2 < keep then c.s1 else c.s2, if 3 < keep then c.s2 else c.s3, if c.kept < keep then c.kept + 1 else c.kept⟩
def sentN (c : Cx) (kind : Nat) (n : St) (keep : Nat) : Cx :=
  addN ⟨c.src, c.dst, c.port, c.turn, wrap64 (c.count + 1), 0, if kind = 3 then c.whole - 1 else c.whole, if kind = 2 then c.full - 1 else c.full, if kind = 3 then 0 else c.age + 1, c.s0, c.s1, c.s2, c.s3, c.kept⟩ n keep

theorem foldl_max_le (l : List St) (n : St) (k : Nat) (h : k ≤ 2) : l.foldl (fun k r => max k (needsN n r)) k ≤ 2 := by
  induction l generalizing k with
  | nil => exact h
  | cons r l ih => exact ih _ (by have := needsN_le n r; show max k (needsN n r) ≤ 2; omega)
theorem leastN_le (c : Cx) (n : St) : leastN c n ≤ 2 := foldl_max_le _ _ _ (by omega)
theorem kindN_le (c : Cx) (n : St) (refresh : Nat) : kindN c n refresh ≤ 3 := by
  have := leastN_le c n
  unfold kindN; split <;> (try split) <;> omega
theorem beginN_ok {c : Cx} (hc : c.ok) {a b d keep : Nat} (ha : a < 4294967296) (hb : b < 4294967296) (hd : d < 65536) (hk : keep ≤ 4) : (beginN c a b d keep).ok :=
  ⟨ha, hb, hd, by unfold beginN; simp only; split; omega; exact hc.turn, trivial, hc.rank, hk, by simp [beginN], by simp [beginN], St.zero_ok, St.zero_ok, St.zero_ok, St.zero_ok, by simp [beginN]⟩
theorem sentN_ok {c : Cx} (hc : c.ok) {kind : Nat} {n : St} (hn : n.ok) {keep : Nat} (hk : keep ≤ 4) (h2 : c.age + 1 < 4611686018427387904) : (sentN c kind n keep).ok := by
  have hw := hc.whole
  have hf := hc.full
  have hkk := hc.kept
  refine ⟨hc.src, hc.dst, hc.port, hc.turn, trivial, by simp [sentN, addN], ?_, ?_, ?_, hn, ?_, ?_, ?_, ?_⟩ <;> simp only [sentN, addN]
  · split <;> omega
  · split <;> omega
  · split <;> omega
  · split; exact hc.s0; exact hc.s1
  · split; exact hc.s1; exact hc.s2
  · split; exact hc.s2; exact hc.s3
  · split <;> omega

/-- the check of a header -/
def chk (wd : Nat) (p : Pk) : Nat := plain.checkOf wd (hdrL p)
/-- what stands between a frame's first byte and its body -/
def toldN (kind : Nat) (n : St) (p : Pk) : List UInt8 :=
  if kind = 3 then hdrL p ++ be n.stride 2 ++ be (chk 8 p) 1
  else if kind = 2 then restL p ++ be n.stride 2 ++ be (chk 8 p) 1
  else if kind = 1 then be (n.seq % 256) 1 ++ be (n.offset % 256) 1 ++ be (n.lag % 256) 1 ++ be (chk 7 p) 1
  else be (16 * (n.seq % 16) + 2 * chk 3 p) 1
/-- a frame -/
def frameN (kind turn cid : Nat) (n : St) (p : Pk) : List UInt8 := be (64 * kind + 16 * turn + 2 * cid) 1 ++ toldN kind n p ++ p.body

end Go.Proofs.YtgpojbgjfibblaaGreat.texts

namespace Go.Proofs.YtgpojbgjfibblaaGreat.texts
set_option linter.unusedVariables false

/-- a length, as it is told -/
def toldL (n : Nat) : List UInt8 := if n < 128 then be n 1 else be (32768 + n) 2
theorem toldL_length (n : Nat) : (toldL n).length = if n < 128 then 1 else 2 := by
  unfold toldL; split <;> simp [be_length]
theorem toldL_le (n : Nat) : (toldL n).length ≤ 2 := by rw [toldL_length]; split <;> omega
theorem toldL_pos (n : Nat) : 1 ≤ (toldL n).length := by rw [toldL_length]; split <;> omega

/-- frames, one behind the other -/
def joinL : List (List UInt8) → List UInt8
  | [] => []
  | f :: r => toldL f.length ++ (f ++ joinL r)
theorem joinL_snoc (l : List (List UInt8)) (f : List UInt8) : joinL (l ++ [f]) = joinL l ++ (toldL f.length ++ f) := by
  induction l with
  | nil => simp [joinL]
  | cons g r ih => simp [joinL, ih]
theorem joinL_length (l : List (List UInt8)) (h : ∀ f ∈ l, f.length ≤ 300) : (joinL l).length ≤ 302 * l.length := by
  induction l with
  | nil => simp [joinL]
  | cons f r ih =>
    have h1 := h f (by simp)
    have h2 := ih (fun g hg => h g (by simp [hg]))
    have h3 := toldL_le f.length
    simp [joinL]
    omega

/-- what Join answers -/
def longOne (l : List (List UInt8)) : Bool := l.any fun f => decide (300 < f.length)
def joinE (l : List (List UInt8)) : Int := if 8 < l.length then 3 else if longOne l = true then 2 else 0
def joinR (l : List (List UInt8)) : List UInt8 := if joinE l = 0 then joinL l else []

/-- does a text begin with the length n and so many bytes? -/
def begins (s : List UInt8) (n : Nat) : Bool := decide (n ≤ 300) && decide (n < s.length) && decide ((toldL n).length + n ≤ s.length) && decide (s.take (toldL n).length = toldL n)
/-- the first frame of a text, by the least length with which it begins, tried from k on, m of them -/
def firstFrom (s : List UInt8) : Nat → Nat → Option Nat
  | _, 0 => none
  | k, m + 1 => if begins s k = true then some k else firstFrom s (k + 1) m
def firstN (s : List UInt8) : Option Nat := firstFrom s 0 301
def frameOf (s : List UInt8) (n : Nat) : List UInt8 := (s.drop (toldL n).length).take n
def restOf (s : List UInt8) (n : Nat) : List UInt8 := s.drop ((toldL n).length + n)

/-- the frames of a text, at most m of them -/
def splitL : Nat → List UInt8 → Option (List (List UInt8))
  | m, s => if s = [] then some [] else
    match firstN s with
    | none => none
    | some n => match m with
      | 0 => none
      | m + 1 => (splitL m (restOf s n)).map (frameOf s n :: ·)
def splitE (s : List UInt8) : Int := match splitL 8 s with | some _ => 0 | none => 4
def splitR (s : List UInt8) : List (List UInt8) := (splitL 8 s).getD []

theorem firstFrom_begins (s : List UInt8) (k m n : Nat) (h : firstFrom s k m = some n) : begins s n = true := by
  induction m generalizing k with
  | zero => simp [firstFrom] at h
  | succ m ih =>
    unfold firstFrom at h
    split at h
    · rename_i hb
      simp at h
      subst h
      exact hb
    · exact ih _ h
theorem begins_facts {s : List UInt8} {n : Nat} (h : begins s n = true) : n ≤ 300 ∧ n < s.length ∧ (toldL n).length + n ≤ s.length ∧ s.take (toldL n).length = toldL n := by
  unfold begins at h
  simp only [Bool.and_eq_true, decide_eq_true_eq] at h
  exact ⟨h.1.1.1, h.1.1.2, h.1.2, h.2⟩
theorem begins_mk {s : List UInt8} {n : Nat} (h1 : n ≤ 300) (h2 : n < s.length) (h3 : (toldL n).length + n ≤ s.length) (h4 : s.take (toldL n).length = toldL n) : begins s n = true := by
  unfold begins; simp [h1, h2, h3, h4]

end Go.Proofs.YtgpojbgjfibblaaGreat.texts

namespace Go.Proofs.YtgpojbgjfibblaaGreat.texts
open Go.RowKit
set_option linter.unusedVariables false
attribute [local go_sem ↓] Go.wp_at_zero Go.wp_at_succ
attribute [local go_sem] bs_size bs_append List.length_append bs_list bs_toList

/-- a slice value reads as a list of texts -/
structure TextsAt (w : World) (v : Value) (ls : List (List UInt8)) (ao : Option Addr) (b off cap : Nat) : Prop where
  form : v = .slice ao ls.length cap
  addr : 0 < ls.length → ao = some ⟨b, off, none⟩
  cell : ∀ i, i < ls.length → w.cell? ⟨b, off + i, none⟩ = some (.string (bs (ls[i]?.getD [])))
theorem TextsAt.lt {w : World} {v : Value} {ls : List (List UInt8)} {ao : Option Addr} {b off cap : Nat} (h : TextsAt w v ls ao b off cap) (hn : 0 < ls.length) : b < w.heap.size := by
  have h1 := h.cell 0 hn
  by_cases h2 : b < w.heap.size
  · exact h2
  · simp [World.cell?, Array.getElem?_eq_none (Nat.le_of_not_lt h2)] at h1
theorem TextsAt.keep {w w2 : World} {v : Value} {ls : List (List UInt8)} {ao : Option Addr} {b off cap : Nat} (h : TextsAt w v ls ao b off cap) (hb : Below w.heap.size w w2) : TextsAt w2 v ls ao b off cap :=
  ⟨h.form, h.addr, fun i hi => by rw [hb.cell (p := ⟨b, off + i, none⟩) (h.lt (by omega))]; exact h.cell i hi⟩

set_option maxRecDepth 100000 in
set_option maxHeartbeats 400000 in
theorem told_any (n : Int) (w : World) (h0 : 0 ≤ n) (h1 : n ≤ 32767) :
    Calls Tryz.prog 63 #[.int .i64 n] w fun e w' => e = .returned (.string (bs (toldL n.toNat))) ∧ Below w.heap.size w w' := by
  obtain ⟨n, rfl⟩ := Int.eq_ofNat_of_zero_le h0
  rw [Int.toNat_natCast]
  by_cases h : n < 128
  · have e := hide (show toldL n = be n 1 by unfold toldL; rw [if_pos h])
    go_enter Tryz.func63, Tryz.ntmps63
    go_wp2_with (go_at_call 85; refine (bytes_any _ _ _ (by omega) (by omega) (by omega) (by omega)).mono ?_; rintro e w' ⟨rfl, hbel⟩)
    go_ret
    exact ⟨ret_str (by rw [unhide e]), hbel⟩
  · have e := hide (show toldL n = be (32768 + n) 2 by unfold toldL; rw [if_neg h])
    go_enter Tryz.func63, Tryz.ntmps63
    go_wp2_with (go_at_call 85; refine (bytes_any _ _ _ (by omega) (by omega) (by omega) (by omega)).mono ?_; rintro e w' ⟨rfl, hbel⟩)
    go_ret
    exact ⟨ret_str (by rw [unhide e, show (32768 + (n : Int)).toNat = 32768 + n by omega]), hbel⟩

theorem ret_si' {a b : ByteArray} {c d : Int} (h : a = b) (g : c = d) : Ending.returned (.tuple #[.string a, .int .i64 c]) = .returned (.tuple #[.string b, .int .i64 d]) := by rw [h, g]

theorem joinE_many {ls : List (List UInt8)} (h : 8 < ls.length) : joinE ls = 3 ∧ joinR ls = [] := by
  have e : joinE ls = 3 := by unfold joinE; rw [if_pos h]
  exact ⟨e, by unfold joinR; rw [if_neg (by rw [e]; decide)]⟩
theorem joinE_long {ls : List (List UInt8)} (h : ¬ 8 < ls.length) {k : Nat} (hk : k < ls.length) (hl : 300 < (ls[k]?.getD []).length) : joinE ls = 2 ∧ joinR ls = [] := by
  have hm : longOne ls = true := by
    unfold longOne
    rw [List.any_eq_true]
    refine ⟨ls[k], List.getElem_mem hk, ?_⟩
    rw [List.getElem?_eq_getElem hk] at hl
    simpa using hl
  have e : joinE ls = 2 := by unfold joinE; rw [if_neg h, if_pos hm]
  exact ⟨e, by unfold joinR; rw [if_neg (by rw [e]; decide)]⟩
theorem joinE_good {ls : List (List UInt8)} (h : ¬ 8 < ls.length) (hl : ∀ f ∈ ls, f.length ≤ 300) : joinE ls = 0 ∧ joinR ls = joinL ls := by
  have hm : longOne ls = false := by
    unfold longOne
    rw [List.any_eq_false]
    intro f hf
    have := hl f hf
    simp; omega
  have e : joinE ls = 0 := by unfold joinE; rw [if_neg h, if_neg (by rw [hm]; decide)]
  exact ⟨e, by unfold joinR; rw [if_pos e]⟩
theorem take_next {ls : List (List UInt8)} {k : Nat} (hk : k < ls.length) : ls.take (k + 1) = ls.take k ++ [ls[k]?.getD []] := by
  rw [List.take_succ_eq_append_getElem hk, List.getElem?_eq_getElem hk]; rfl

set_option maxHeartbeats 1000000 in
theorem rjoin_any (w : World) (v : Value) (ls : List (List UInt8)) (ao : Option Addr) (b off cap : Nat) (hT : TextsAt w v ls ao b off cap) (hmax : ls.length ≤ 9223372036854775807) :
    Calls Tryz.prog 36 #[v] w fun e w' => e = .returned (.tuple #[.string (bs (joinR ls)), .int .i64 (joinE ls)]) ∧ Below w.heap.size w w' := by
  obtain ⟨rfl, haddr, hcell⟩ := hT
  by_cases hmany : 8 < ls.length
  · have e := hide (joinE_many hmany)
    clear haddr hcell
    go_enter Tryz.func36, Tryz.ntmps36
    go_wp2_with fail
    go_ret2
    exact ⟨ret_si' (by rw [(unhide e).2]; rfl) (unhide e).1.symm, Below.refl _ _⟩
  · have HA := hide haddr
    have HC := hide hcell
    have HT : Hid (TextsAt w (.slice ao ls.length cap) ls ao b off cap) := ⟨rfl, haddr, hcell⟩
    clear haddr hcell
    go_enter Tryz.func36, Tryz.ntmps36
    go_wp2_with fail
    go_loopw [4, 5] (fun s i wr => ∃ k : Nat, k ≤ ls.length ∧ i = .int .i64 k ∧ s = .string (bs (joinL (ls.take k))) ∧ (∀ f ∈ ls.take k, f.length ≤ 300) ∧ Below w.heap.size w wr) (fun _ i _ => ls.length - (intOf i).toNat)
    case atStart => exact ⟨0, Nat.zero_le _, rfl, rfl, by simp, Below.refl _ _⟩
    case round =>
      obtain ⟨k, hk, rfl, rfl, hsh, hbel⟩ := hrel
      have Hsh := hide hsh
      have HB := hide hbel
      clear hsh hbel
      by_cases hlt : k < ls.length
      · obtain rfl := unhide HA (by omega)
        have hc := ((unhide HT).keep (unhide HB)).cell k hlt
        have hnext := hide (take_next hlt)
        have hJ := joinL_length (ls.take k) (unhide Hsh)
        have hJ2 : (ls.take k).length ≤ 8 := by simp; omega
        by_cases hlong : 300 < (ls[k]?.getD []).length
        · have e := hide (joinE_long hmany hlt hlong)
          generalize hf : ls[k]?.getD [] = f at *
          clear hf
          go_wp2_with fail
          go_ret2
          exact ⟨ret_si' (by rw [(unhide e).2]; rfl) (unhide e).1.symm, unhide HB⟩
        · generalize hf : ls[k]?.getD [] = f at *
          have Hf := hide hf
          have hT2 := toldL_le f.length
          generalize hA : joinL (ls.take k) = A at *
          have HAA := hide hA
          clear hf hA
          have hA2 : A.length ≤ 2416 := by omega
          have hn1 : ¬ 9223372036854775807 < A.length + (toldL f.length).length := by omega
          have hn2 : ¬ 9223372036854775807 < A.length + (toldL f.length).length + f.length := by omega
          have hn3 : ¬ 9223372036854775807 < A.length + ((toldL f.length).length + f.length) := by omega
          have hk0 : (0 : Int) ≤ (k : Int) := by omega
          have hk1 : (k : Int) < (ls.length : Int) := by omega
          go_wp2_with fail
          go_region_held3 (fun w' => w'.cell? ⟨b, off + k, none⟩ = some (.string (bs f)) ∧ Below w.heap.size w w')
            (first | exact ⟨hc, (unhide HB).drew⟩ | (go_split_ands; exact ⟨keep_cell (by assumption) hbel, grew_call (by assumption) hbel⟩))
            ((go_at_call 63; refine (told_any _ _ (by omega) (by omega)).mono ?_; rintro e w' ⟨rfl, hbel⟩))
          all_goals go_split_ands
          all_goals
            have HB' := hide (show Below w.heap.size w w' by assumption)
            go_wp2
            go_roundw
            case rel =>
              refine ⟨k + 1, by omega, by go_num, ?_, ?_, unhide HB'⟩
              · rw [unhide hnext, joinL_snoc, unhide HAA]
              · rw [unhide hnext]
                intro g hg
                rcases List.mem_append.1 hg with hg | hg
                · exact unhide Hsh g hg
                · simp at hg; subst hg; omega
            case measure => simp [intOf]; omega
      · have e : k = ls.length := by omega
        subst e
        have Hsh2 := unhide Hsh
        rw [List.take_length] at Hsh2
        have e := hide (joinE_good hmany Hsh2)
        clear Hsh2
        go_wp2_with fail
        go_ret2
        exact ⟨ret_si' (by rw [(unhide e).2, List.take_length]) (unhide e).1.symm, unhide HB⟩

end Go.Proofs.YtgpojbgjfibblaaGreat.texts

namespace Go.Proofs.YtgpojbgjfibblaaGreat.texts
open Go.RowKit
set_option linter.unusedVariables false
attribute [local go_sem ↓] Go.wp_at_zero Go.wp_at_succ
attribute [local go_sem] bs_size bs_append List.length_append bs_list bs_toList bs_extract

/-- what first answers -/
def firstF (s : List UInt8) : List UInt8 := match firstN s with | some n => frameOf s n | none => []
def firstR (s : List UInt8) : List UInt8 := match firstN s with | some n => restOf s n | none => []

theorem ret_ssb {a b c d : ByteArray} {x y : Bool} (h : a = b) (g : c = d) (i : x = y) : Ending.returned (.tuple #[.string a, .string c, .bool x]) = .returned (.tuple #[.string b, .string d, .bool y]) := by rw [h, g, i]

theorem firstN_found {s : List UInt8} {k : Nat} (h : firstN s = firstFrom s k (301 - k)) (hk : k ≤ 300) (hb : begins s k = true) : firstN s = some k := by
  rw [h, show 301 - k = (300 - k) + 1 by omega, firstFrom, if_pos hb]
theorem firstN_next {s : List UInt8} {k : Nat} (h : firstN s = firstFrom s k (301 - k)) (hk : k ≤ 300) (hb : begins s k = false) : firstN s = firstFrom s (k + 1) (301 - (k + 1)) := by
  rw [h, show 301 - k = (301 - (k + 1)) + 1 by omega, firstFrom, if_neg (by rw [hb]; decide)]
theorem firstFrom_none (s : List UInt8) (k m : Nat) (h : s.length ≤ k ∨ 300 < k) : firstFrom s k m = none := by
  induction m generalizing k with
  | zero => rfl
  | succ m ih =>
    rw [firstFrom, if_neg, ih (k + 1) (by omega)]
    intro hb
    have := begins_facts hb
    omega
theorem begins_no {s : List UInt8} {n : Nat} (h : ¬ ((toldL n).length + n ≤ s.length ∧ s.take (toldL n).length = toldL n)) : begins s n = false := by
  cases hb : begins s n
  · rfl
  · have := begins_facts hb
    exact absurd ⟨this.2.2.1, this.2.2.2⟩ h

theorem frame_cut {s : List UInt8} {k : Nat} (h : firstN s = some k) : bs (List.drop (toldL k).length (List.take ((toldL k).length + k) s)) = bs (firstF s) := by
  unfold firstF
  rw [h]
  simp only [frameOf]
  rw [List.drop_take, Nat.add_sub_cancel_left]

set_option maxRecDepth 100000 in
set_option maxHeartbeats 1000000 in
theorem first_any (s : List UInt8) (w : World) (hs : s.length ≤ 9223372036854775807) :
    Calls Tryz.prog 65 #[.string (bs s)] w fun e w' => e = .returned (.tuple #[.string (bs (firstF s)), .string (bs (firstR s)), .bool (firstN s).isSome]) ∧ Below w.heap.size w w' := by
  go_enter Tryz.func65, Tryz.ntmps65
  go_wp2_with fail
  go_loopw [5] (fun n wr => ∃ k : Nat, k ≤ 301 ∧ n = .int .i64 k ∧ firstN s = firstFrom s k (301 - k) ∧ Below w.heap.size w wr) (fun n _ => 301 - (intOf n).toNat)
  case atStart => exact ⟨0, by omega, rfl, rfl, Below.refl _ _⟩
  case round =>
    obtain ⟨k, hk, rfl, hfirst, hbel⟩ := hrel
    have HF := hide hfirst
    have HB := hide hbel
    clear hfirst hbel
    by_cases hin : k ≤ 300 ∧ k < s.length
    · obtain ⟨h3, hlt⟩ := hin
      have hK1 := toldL_pos k
      have hK2 := toldL_le k
      by_cases hfit : (toldL k).length + k ≤ s.length
      · by_cases heq : s.take (toldL k).length = toldL k
        · have hfound := hide (firstN_found (unhide HF) h3 (begins_mk h3 hlt hfit heq))
          have heq2 : (List.take (toldL k).length s == toldL k) = true := by rw [heq]; simp
          have Heq := hide heq
          clear heq
          have hi1 : (0 : Int) ≤ ((toldL k).length : Int) := by omega
          have hi2 : ((toldL k).length : Int) ≤ (s.length : Int) := by omega
          have hi3 : ((toldL k).length : Int) ≤ ((toldL k).length : Int) + (k : Int) := by omega
          have hi4 : ((toldL k).length : Int) + (k : Int) ≤ (s.length : Int) := by omega
          have hi5 : (0 : Int) ≤ ((toldL k).length : Int) + (k : Int) := by omega
          have hi6 : IntKind.i64.wrap (((toldL k).length : Int) + (k : Int)) = ((toldL k).length : Int) + (k : Int) := wrap_id (by omega) (by omega)
          go_wp2_with (go_at_call 63; refine (told_any _ _ (by omega) (by omega)).mono ?_; rintro e w' ⟨rfl, hbel⟩; rw [Int.toNat_natCast])
          have HB2 := hide (grew_call (unhide HB) hbel)
          clear hbel
          go_quiet (fail)
          all_goals go_wp2
          all_goals go_ret3
          all_goals exact ⟨ret_ssb (by rw [frame_cut (unhide hfound)]) (by unfold firstR; rw [unhide hfound]; rfl) (by rw [unhide hfound]; rfl), below_drewN (unhide HB2) _⟩
        · have hnext := hide (firstN_next (unhide HF) h3 (begins_no (fun h => heq h.2)))
          have heq2 : (List.take (toldL k).length s == toldL k) = false := by rw [beq_eq_false_iff_ne]; exact heq
          have Heq := hide heq
          clear heq
          have hi1 : (0 : Int) ≤ ((toldL k).length : Int) := by omega
          have hi2 : ((toldL k).length : Int) ≤ (s.length : Int) := by omega
          go_wp2_with (go_at_call 63; refine (told_any _ _ (by omega) (by omega)).mono ?_; rintro e w' ⟨rfl, hbel⟩; rw [Int.toNat_natCast])
          have HB2 := hide (grew_call (unhide HB) hbel)
          clear hbel
          go_roundw
          case rel => exact ⟨k + 1, by omega, by go_num, unhide hnext, unhide HB2⟩
          case measure => simp [intOf]; omega
      · have hnext := hide (firstN_next (unhide HF) h3 (begins_no (fun h => hfit h.1)))
        go_wp2_with (go_at_call 63; refine (told_any _ _ (by omega) (by omega)).mono ?_; rintro e w' ⟨rfl, hbel⟩; rw [Int.toNat_natCast])
        have HB2 := hide (grew_call (unhide HB) hbel)
        clear hbel
        go_roundw
        case rel => exact ⟨k + 1, by omega, by go_num, unhide hnext, unhide HB2⟩
        case measure => simp [intOf]; omega
    · have hnone := hide (show firstN s = none by rw [unhide HF]; exact firstFrom_none s k _ (by omega))
      by_cases h3 : k ≤ 300
      · have hge : s.length ≤ k := by omega
        go_wp2_with fail
        go_ret3
        exact ⟨ret_ssb (by unfold firstF; rw [unhide hnone]; rfl) (by unfold firstR; rw [unhide hnone]; rfl) (by rw [unhide hnone]; rfl), unhide HB⟩
      · go_wp2_with fail
        go_ret3
        exact ⟨ret_ssb (by unfold firstF; rw [unhide hnone]; rfl) (by unfold firstR; rw [unhide hnone]; rfl) (by rw [unhide hnone]; rfl), unhide HB⟩

theorem infoS : (Tryz.prog.info? 9).map (fun i => (i.zero, i.size, i.bytes)) = some (some (.string ⟨#[]⟩), 1, 16) := by kernel_rfl
/-- texts as cells -/
def strs (l : List (List UInt8)) : List Value := l.map fun f => .string (bs f)
theorem strs_snoc (l : List (List UInt8)) (f : List UInt8) : strs (l ++ [f]) = strs l ++ [.string (bs f)] := by simp [strs]
theorem strs_length (l : List (List UInt8)) : (strs l).length = l.length := by simp [strs]
/-- the length of a text in a slot -/
def strLen : Value → Nat | .string b => b.size | _ => 0

theorem splitL_nil (m : Nat) : splitL m [] = some [] := by unfold splitL; rw [if_pos rfl]
theorem splitL_bad (m : Nat) {t : List UInt8} (ht : t ≠ []) (h : firstN t = none) : splitL m t = none := by
  unfold splitL; rw [if_neg ht, h]
theorem splitL_many {t : List UInt8} (ht : t ≠ []) : splitL 0 t = none := by
  unfold splitL; rw [if_neg ht]; cases firstN t <;> rfl
theorem splitL_step (m : Nat) {t : List UInt8} (ht : t ≠ []) {n : Nat} (h : firstN t = some n) : splitL (m + 1) t = (splitL m (restOf t n)).map (frameOf t n :: ·) := by
  conv => lhs; unfold splitL
  rw [if_neg ht, h]
theorem rest_lt {t : List UInt8} {n : Nat} (h : firstN t = some n) : (restOf t n).length < t.length := by
  have hb := begins_facts (firstFrom_begins _ _ _ _ h)
  have := toldL_pos n
  unfold restOf; simp; omega

/-- one frame more -/
theorem split_more {s t : List UInt8} {fr : List (List UInt8)} {n : Nat} (h : splitL 8 s = (splitL (8 - fr.length) t).map (fr ++ ·)) (hl : fr.length < 8) (ht : t ≠ []) (hn : firstN t = some n) :
    splitL 8 s = (splitL (8 - (fr ++ [frameOf t n]).length) (restOf t n)).map ((fr ++ [frameOf t n]) ++ ·) := by
  rw [h, show 8 - fr.length = (8 - (fr ++ [frameOf t n]).length) + 1 by simp; omega, splitL_step _ ht hn]
  cases splitL (8 - (fr ++ [frameOf t n]).length) (restOf t n) <;> simp

theorem own_more {B : Nat} {w wr w1 : World} {v v' : Value} {fr : List (List UInt8)} {f : List UInt8} {o : Obj} (hbel : Below B w wr) (hB : B ≤ wr.heap.size)
    (hown : wr.ownsRow B 9 1 v fr.length (strs fr)) (hown1 : w1.ownsRow B 9 1 v' (fr.length + 1) (strs fr ++ [.string (bs f)])) (hg : (wr.alloc o).grownBy w1 v.ownBlock) :
    w1.ownsRow B 9 1 v' (fr ++ [f]).length (strs (fr ++ [f])) ∧ Below B w w1 := by
  have hb1 : Below B w w1 := (hbel.alloc hB o).grown hg (by simp; omega) (fun k hk => (hown.lt k hk).1)
  refine ⟨?_, hb1⟩
  rw [strs_snoc]
  simpa using hown1

theorem own_keep {w w2 : World} {base : Nat} {e : TypeId} {size : Nat} {v : Value} {n : Nat} {xs : List Value} (h : w.ownsRow base e size v n xs) (hb : Below w.heap.size w w2) : w2.ownsRow base e size v n xs := by
  refine ⟨h.1, ?_⟩
  rcases h.2 with h2 | ⟨g, cap, cur, hv, hg, hh, r⟩
  · exact Or.inl h2
  · exact Or.inr ⟨g, cap, cur, hv, hg, by rw [hb.block g (Array.getElem?_eq_some_iff.1 hh).1]; exact hh, r⟩
theorem split_end {s : List UInt8} {fr : List (List UInt8)} (h : splitL 8 s = (splitL (8 - fr.length) []).map (fr ++ ·)) : splitE s = 0 ∧ splitR s = fr := by
  rw [splitL_nil] at h
  simp at h
  exact ⟨by unfold splitE; rw [h], by unfold splitR; rw [h]; rfl⟩
theorem split_fail {s T : List UInt8} {fr : List (List UInt8)} (h : splitL 8 s = (splitL (8 - fr.length) T).map (fr ++ ·)) (hT : splitL (8 - fr.length) T = none) : splitE s = 4 ∧ splitR s = [] := by
  rw [hT] at h
  simp at h
  exact ⟨by unfold splitE; rw [h], by unfold splitR; rw [h]; rfl⟩
theorem ret_vi {a b : Value} {c d : Int} (h : a = b) (g : c = d) : Ending.returned (.tuple #[a, .int .i64 c]) = .returned (.tuple #[b, .int .i64 d]) := by rw [h, g]
theorem own_slice {w : World} {base : Nat} {e : TypeId} {v : Value} {n : Nat} {xs : List Value} (h : w.ownsRow base e 1 v n xs) : ∃ ao cap, v = .slice ao n cap := by
  rcases h.2 with ⟨rfl, rfl⟩ | ⟨g, cap, cur, rfl, hb, hg, r⟩
  · exact ⟨none, 0, rfl⟩
  · exact ⟨some ⟨g, 0, none⟩, cap, rfl⟩

set_option maxRecDepth 100000 in
set_option maxHeartbeats 1000000 in
theorem rsplit_any (s : List UInt8) (w : World) (hs : s.length ≤ 9223372036854775807) :
    Calls Tryz.prog 38 #[.string (bs s)] w fun e w' => ∃ v, e = .returned (.tuple #[v, .int .i64 (splitE s)]) ∧ w'.ownsRow w.heap.size 9 1 v (splitR s).length (strs (splitR s)) ∧ Below w.heap.size w w' := by
  obtain ⟨i0, hi, hz0, hz1, hz2⟩ := info_parts infoS
  go_enter Tryz.func38, Tryz.ntmps38
  go_wp2_with fail
  go_loopw [0, 4] (fun t v wr => ∃ (T : List UInt8) (fr : List (List UInt8)), T.length ≤ s.length ∧ fr.length ≤ 8 ∧ t = .string (bs T) ∧ splitL 8 s = (splitL (8 - fr.length) T).map (fr ++ ·) ∧ wr.ownsRow w.heap.size 9 1 v fr.length (strs fr) ∧ Below w.heap.size w wr) (fun t _ _ => strLen t)
  case atStart =>
    refine ⟨s, [], Nat.le_refl _, by simp, rfl, ?_, World.ownsRow_nil _ _ _ _, Below.refl _ _⟩
    cases splitL 8 s <;> simp
  case round =>
    obtain ⟨T, fr, hT, hfr, rfl, hsplit, hown, hbel⟩ := hrel
    obtain ⟨ao, cap, rfl⟩ := own_slice hown
    have HS := hide hsplit
    have HO := hide hown
    have HB := hide hbel
    have hz : w.heap.size ≤ wr.heap.size := hbel.size
    clear hsplit hown hbel
    by_cases hnil : T = []
    · subst hnil
      obtain ⟨e1, e2⟩ := split_end (unhide HS)
      have E1 := hide e1
      have E2 := hide e2
      clear e1 e2
      go_wp2_with fail
      go_ret2
      refine ⟨_, ret_vi rfl (unhide E1).symm, ?_, unhide HB⟩
      rw [unhide E2]
      exact unhide HO
    · have hne : (T == []) = false := by rw [beq_eq_false_iff_ne]; exact hnil
      have Hnil := hide hnil
      clear hnil
      cases hfn : firstN T with
      | none =>
        obtain ⟨e1, e2⟩ := split_fail (unhide HS) (splitL_bad _ (unhide Hnil) hfn)
        have E1 := hide e1
        have E2 := hide e2
        clear e1 e2
        have hF := hide (first_any T)
        unfold firstF firstR at hF
        rw [hfn] at hF
        clear hfn
        go_wp2_with fail
        refine (unhide hF _ (by omega)).mono ?_
        rintro e w2 ⟨rfl, hb2⟩
        go_wp2_with fail
        go_ret2
        refine ⟨_, ret_vi rfl (unhide E1).symm, ?_, grew_call (unhide HB) hb2⟩
        rw [unhide E2]
        exact World.ownsRow_nil _ _ _ _
      | some n =>
        have hF := hide (first_any T)
        unfold firstF firstR at hF
        rw [hfn] at hF
        by_cases h8 : fr.length = 8
        · have h8b : ((fr.length : Int) == 8) = true := by simp; omega
          obtain ⟨e1, e2⟩ := split_fail (unhide HS) (by rw [h8]; exact splitL_many (unhide Hnil))
          have E1 := hide e1
          have E2 := hide e2
          have H8 := hide h8
          clear e1 e2 hfn h8
          go_wp2_with fail
          refine (unhide hF _ (by omega)).mono ?_
          rintro e w2 ⟨rfl, hb2⟩
          go_wp2_with fail
          go_ret2
          refine ⟨_, ret_vi rfl (unhide E1).symm, ?_, grew_call (unhide HB) hb2⟩
          rw [unhide E2]
          exact World.ownsRow_nil _ _ _ _
        · have h8b : ((fr.length : Int) == 8) = false := by simp; omega
          have hmore := hide (split_more (unhide HS) (by omega) (unhide Hnil) hfn)
          have hlt := hide (rest_lt hfn)
          have Hfn := hide hfn
          clear hfn
          go_wp2_with fail
          refine (unhide hF _ (by omega)).mono ?_
          rintro e w2 ⟨rfl, hb2⟩
          have hown := own_keep (unhide HO) hb2
          have HB2 := hide (grew_call (unhide HB) hb2)
          have hzw : w.heap.size ≤ w2.heap.size := Nat.le_trans hz hb2.size
          clear hb2 HO HB
          go_wp2_with (at_builtin; refine wpList_append_own _ rfl _ _ 29 rfl w.heap.size 9 i0 (.string ⟨#[]⟩) 1 16 Tryz.underlying29 hi hz0 hz1 hz2 rfl (by decide) _ _ _ rfl (hown.alloc _) ⟨w2.heap.size, 0, none⟩ 1 1 [.string (bs (frameOf T n))] rfl rfl ?c1 ?c2 ?c3 ?c4 ?c5 ?_)
          case c1 =>
            intro j u hj
            match j, hj with
            | 0, hj => simp at hj; subst hj; simp [Addr.add]
          case c2 => intro u hu; simp at hu; subst hu; rfl
          case c3 => unfold maxLen; omega
          case c4 => omega
          case c5 => simp; omega
          · intro v' w3 hown3 hgrow3 _
            obtain ⟨R1, R2⟩ := own_more (unhide HB2) hzw hown hown3 hgrow3
            have H1 := hide R1
            have H2 := hide R2
            clear hown hown3 hgrow3 HB2 R1 R2
            go_wp2
            go_roundw
            case rel => exact ⟨restOf T n, fr ++ [frameOf T n], by have := unhide hlt; omega, by simp; omega, rfl, unhide hmore, unhide H1, unhide H2⟩
            case measure =>
              have := unhide hlt
              simp [strLen, bs_size]; omega

end Go.Proofs.YtgpojbgjfibblaaGreat.texts
