/-
  The walk of the program's header as bytes (package wire): Header. A sender in plain numbers: states, contexts, what a packet makes of them, its frame. Plain functions on lists of frames: the length that is told, Join, the first frame of a text, Split. Lists of texts in memory; the walks of the document's told and Join (package gistref). The walks of the document's first and Split (package gistref).
  Conditions stand in each theorem.
-/
import Derived.Test.YtgpojbgjfibblabPart3
import Derived.Test.YtgpojbgjfibblabPart2
import Derived.Deep.QuietTactic
import Derived.BigQuiet
namespace Go.Proofs.Ytgpojbgjfibblab.texts
open Go.RowKit
set_option linter.unusedVariables false
attribute [local go_sem ↓] Go.wp_at_zero Go.wp_at_succ
attribute [local go_sem] bs_size be_length bs_append List.length_append

/-- a packet's cells lie in a block of their own, and nothing below has changed -/
structure PkAt (w : World) (p : Pk) (w' : World) : Prop where
  src : w'.cell? ⟨w.heap.size, 0, none⟩ = some (.int .u32 p.src)
  dst : w'.cell? ⟨w.heap.size, 1, none⟩ = some (.int .u32 p.dst)
  port : w'.cell? ⟨w.heap.size, 2, none⟩ = some (.int .u16 p.port)
  seq : w'.cell? ⟨w.heap.size, 3, none⟩ = some (.int .u16 p.seq)
  time : w'.cell? ⟨w.heap.size, 4, none⟩ = some (.int .u32 p.time)
  id : w'.cell? ⟨w.heap.size, 5, none⟩ = some (.int .u16 p.id)
  flags : w'.cell? ⟨w.heap.size, 6, none⟩ = some (.int .u8 p.flags)
  body : w'.cell? ⟨w.heap.size, 7, none⟩ = some (.string (bs p.body))
  below : Below w.heap.size w w'
theorem PkAt.call {w w1 w2 : World} {p : Pk} (h : PkAt w p w1) (hb : Below w1.heap.size w1 w2) : PkAt w p w2 :=
  ⟨keep_cell h.src hb, keep_cell h.dst hb, keep_cell h.port hb, keep_cell h.seq hb, keep_cell h.time hb, keep_cell h.id hb, keep_cell h.flags hb, keep_cell h.body hb, h.below.trans (hb.mono h.below.size)⟩
theorem PkAt.start (w : World) (p : Pk) : PkAt w p (w.alloc (.cells p.cells 29)) :=
  ⟨by simp [Pk.cells], by simp [Pk.cells], by simp [Pk.cells], by simp [Pk.cells], by simp [Pk.cells], by simp [Pk.cells], by simp [Pk.cells], by simp [Pk.cells], (Below.refl _ _).alloc (Nat.le_refl _) _⟩
theorem PkAt.drew {w w1 : World} {p : Pk} (h : PkAt w p w1) : PkAt w p w1.drew :=
  ⟨h.src, h.dst, h.port, h.seq, h.time, h.id, h.flags, h.body, h.below.drew⟩

set_option maxRecDepth 100000 in
set_option maxHeartbeats 1000000 in
theorem wfields_any (p : Pk) (w : World) (hp : p.ok) :
    Calls Try.prog 51 #[.agg p.cells] w fun e w' => e = .returned (.string (bs (restL p))) ∧ Below w.heap.size w w' := by
  obtain ⟨h1, h2, h3, h4, h5, h6, h7⟩ := hp
  unfold Pk.cells
  go_enter Try.func51, Try.ntmps51
  go_wp2_with fail
  go_region_held3 (fun w' => w'.cell? ⟨w.heap.size, 3, none⟩ = some (.int .u16 p.seq) ∧ w'.cell? ⟨w.heap.size, 4, none⟩ = some (.int .u32 p.time) ∧ w'.cell? ⟨w.heap.size, 5, none⟩ = some (.int .u16 p.id) ∧ w'.cell? ⟨w.heap.size, 6, none⟩ = some (.int .u8 p.flags) ∧ Below w.heap.size w w' ∧ w.heap.size ≤ w'.heap.size)
    (first | (go_keep; done) | (refine ⟨by simp, by simp, by simp, by simp, ((Below.refl _ _).alloc (Nat.le_refl _) _).drew, by simp⟩) | (go_split_ands; exact ⟨keep_cell (by assumption) hbel, keep_cell (by assumption) hbel, keep_cell (by assumption) hbel, keep_cell (by assumption) hbel, keep_below (by assumption) hbel (by assumption), Nat.le_trans (by assumption) hbel.size⟩))
    ((first | (go_at_call 61; refine (text32_any _ _ (by omega) (by omega)).mono ?_; rintro e w' ⟨rfl, hbel⟩) | (go_at_call 50; refine (text16_any _ _ (by omega) (by omega)).mono ?_; rintro e w' ⟨rfl, hbel⟩) | (go_at_call 40; refine (text8_any _ _ (by omega) (by omega)).mono ?_; rintro e w' ⟨rfl, hbel⟩)))
  all_goals go_split_ands
  all_goals go_wp2
  all_goals go_ret
  all_goals exact ⟨ret_str (by simp [restL]), by assumption⟩

set_option maxRecDepth 100000 in
set_option maxHeartbeats 1000000 in
theorem wheader_any (p : Pk) (w : World) (hp : p.ok) :
    Calls Try.prog 48 #[.agg p.cells] w fun e w' => e = .returned (.string (bs (hdrL p))) ∧ Below w.heap.size w w' := by
  have hrl : (restL p).length = 9 := by simp [restL, be_length]
  have hp' := hide hp
  obtain ⟨h1, h2, h3, h4, h5, h6, h7⟩ := hp
  unfold Pk.cells
  go_enter Try.func48, Try.ntmps48
  go_wp2_with fail
  go_region_held3 (fun w' => w'.cell? ⟨w.heap.size, 0, none⟩ = some (.int .u32 p.src) ∧ w'.cell? ⟨w.heap.size, 1, none⟩ = some (.int .u32 p.dst) ∧ w'.cell? ⟨w.heap.size, 2, none⟩ = some (.int .u16 p.port) ∧ w'.cell? ⟨w.heap.size, 3, none⟩ = some (.int .u16 p.seq) ∧ w'.cell? ⟨w.heap.size, 4, none⟩ = some (.int .u32 p.time) ∧ w'.cell? ⟨w.heap.size, 5, none⟩ = some (.int .u16 p.id) ∧ w'.cell? ⟨w.heap.size, 6, none⟩ = some (.int .u8 p.flags) ∧ w'.cell? ⟨w.heap.size, 7, none⟩ = some (.string (bs p.body)) ∧ Below w.heap.size w w' ∧ w.heap.size ≤ w'.heap.size)
    (first | (go_keep; done) | (refine ⟨by simp, by simp, by simp, by simp, by simp, by simp, by simp, by simp, ((Below.refl _ _).alloc (Nat.le_refl _) _).drew, by simp⟩) | (go_split_ands; exact ⟨keep_cell (by assumption) hbel, keep_cell (by assumption) hbel, keep_cell (by assumption) hbel, keep_cell (by assumption) hbel, keep_cell (by assumption) hbel, keep_cell (by assumption) hbel, keep_cell (by assumption) hbel, keep_cell (by assumption) hbel, keep_below (by assumption) hbel (by assumption), Nat.le_trans (by assumption) hbel.size⟩))
    ((first | (go_at_call 61; refine (text32_any _ _ (by omega) (by omega)).mono ?_; rintro e w' ⟨rfl, hbel⟩) | (go_at_call 50; refine (text16_any _ _ (by omega) (by omega)).mono ?_; rintro e w' ⟨rfl, hbel⟩)))
  all_goals go_split_ands
  all_goals go_wp2_with (go_at_call 51; refine (wfields_any p _ hp'.out).mono ?_; rintro e w2 ⟨rfl, hbel2⟩)
  all_goals go_ret
  all_goals exact ⟨ret_str (by simp [hdrL, headL, restL]), keep_below (by assumption) hbel2 (by assumption)⟩

end Go.Proofs.Ytgpojbgjfibblab.texts

namespace Go.Proofs.Ytgpojbgjfibblab.texts
open Go.RowKit
set_option linter.unusedVariables false

/-- a flow's state -/
structure St where
  seq : Nat
  stride : Nat
  offset : Nat
  lag : Nat
  flags : Nat
structure St.ok (s : St) : Prop where
  seq : s.seq < 65536
  stride : s.stride < 65536
  offset : s.offset < 65536
  lag : s.lag < 4294967296
  flags : s.flags < 256
def St.zero : St := ⟨0, 0, 0, 0, 0⟩
theorem St.zero_ok : St.zero.ok := ⟨by decide, by decide, by decide, by decide, by decide⟩
/-- its cells, as the program's and as the document's -/
def St.cells (s : St) : Array Value := #[.int .u16 s.seq, .int .u16 s.stride, .int .u16 s.offset, .int .u32 s.lag, .int .u8 s.flags]
def St.flat (s : St) : Array Value := #[.int .i64 s.seq, .int .i64 s.stride, .int .i64 s.offset, .int .i64 s.lag, .int .i64 s.flags]

theorem way_lt {a b : Nat} (ha : a < 65536) (hb : b < 65536) : a * b < 4294967296 := by
  have h : a * b ≤ 65535 * 65535 := Nat.mul_le_mul (by omega) (by omega)
  omega

/-- the Time of the packet that left a state -/
def timeN (s : St) : Nat := (s.lag + s.stride * s.seq) % 4294967296
theorem timeN_lt (s : St) : timeN s < 4294967296 := Nat.mod_lt _ (by decide)
/-- the state that a packet leaves -/
def stateN (p : Pk) (stride : Nat) : St := ⟨p.seq, stride, (p.id + 65536 - p.seq) % 65536, (p.time + 4294967296 - stride * p.seq) % 4294967296, p.flags⟩
theorem stateN_ok {p : Pk} (hp : p.ok) {stride : Nat} (h : stride < 65536) : (stateN p stride).ok :=
  ⟨hp.seq, h, Nat.mod_lt _ (by decide), Nat.mod_lt _ (by decide), hp.flags⟩
theorem timeN_stateN {p : Pk} (hp : p.ok) {stride : Nat} (h : stride < 65536) : timeN (stateN p stride) = p.time := by
  have h1 := way_lt h hp.seq
  have h2 := hp.time
  unfold timeN stateN
  simp only
  generalize stride * p.seq = x at *
  omega

/-- the kind of frame by which a receiver at one state learns the next -/
def needsN (n r : St) : Nat :=
  if n.stride = r.stride ∧ n.flags = r.flags then
    if n.offset = r.offset ∧ n.lag = r.lag ∧ bits.fitR 16 n.seq r.seq 4 1 = true then 0
    else if bits.fitR 16 n.seq r.seq 8 1 = true ∧ bits.fitR 16 n.offset r.offset 8 128 = true ∧ bits.fitR 32 n.lag r.lag 8 128 = true then 1 else 2
  else 2
theorem needsN_le (n r : St) : needsN n r ≤ 2 := by unfold needsN; split <;> (try split) <;> (try split) <;> omega

/-- what a sender keeps of a flow -/
structure Cx where
  src : Nat
  dst : Nat
  port : Nat
  turn : Nat
  count : Int
  rank : Nat
  whole : Nat
  full : Nat
  age : Nat
  s0 : St
  s1 : St
  s2 : St
  s3 : St
  kept : Nat
structure Cx.ok (c : Cx) : Prop where
  src : c.src < 4294967296
  dst : c.dst < 4294967296
  port : c.port < 65536
  turn : c.turn < 4
  count : True
  rank : c.rank ≤ 8
  whole : c.whole ≤ 4
  full : c.full ≤ 4
  age : c.age < 4611686018427387904
  s0 : c.s0.ok
  s1 : c.s1.ok
  s2 : c.s2.ok
  s3 : c.s3.ok
  kept : c.kept ≤ 4
def Cx.cells (c : Cx) : Array Value := #[.int .u32 c.src, .int .u32 c.dst, .int .u16 c.port, .int .u8 c.turn, .int .i64 c.count, .int .i64 c.rank, .int .i64 c.whole, .int .i64 c.full, .int .i64 c.age,
  .int .u16 c.s0.seq, .int .u16 c.s0.stride, .int .u16 c.s0.offset, .int .u32 c.s0.lag, .int .u8 c.s0.flags,
  .int .u16 c.s1.seq, .int .u16 c.s1.stride, .int .u16 c.s1.offset, .int .u32 c.s1.lag, .int .u8 c.s1.flags,
  .int .u16 c.s2.seq, .int .u16 c.s2.stride, .int .u16 c.s2.offset, .int .u32 c.s2.lag, .int .u8 c.s2.flags,
  .int .u16 c.s3.seq, .int .u16 c.s3.stride, .int .u16 c.s3.offset, .int .u32 c.s3.lag, .int .u8 c.s3.flags, .int .i64 c.kept]
def Cx.sts (c : Cx) : List St := [c.s0, c.s1, c.s2, c.s3].take c.kept
/-- a context that has had no flow yet -/
def Cx.blank : Cx := ⟨0, 0, 0, 0, 0, 8, 0, 0, 0, St.zero, St.zero, St.zero, St.zero, 0⟩
theorem Cx.blank_ok : Cx.blank.ok := ⟨by decide, by decide, by decide, by decide, by decide, by decide, by decide, by decide, by decide, St.zero_ok, St.zero_ok, St.zero_ok, St.zero_ok, by decide⟩

def Cx.hasB (c : Cx) (a b d : Nat) : Bool := decide (0 < c.kept ∧ c.src = a ∧ c.dst = b ∧ c.port = d)
def strideN (c : Cx) (p : Pk) : Nat :=
  if c.kept = 0 then 0 else if (c.s0.seq + 1) % 65536 = p.seq then (p.time + 4294967296 - timeN c.s0) % 65536 else c.s0.stride
theorem strideN_lt {c : Cx} (hc : c.ok) (p : Pk) : strideN c p < 65536 := by
  unfold strideN
  split
  · omega
  · split
    · omega
    · exact hc.s0.stride
def leastN (c : Cx) (n : St) : Nat := c.sts.foldl (fun k r => max k (needsN n r)) 0
def kindN (c : Cx) (n : St) (refresh : Nat) : Nat := if 0 < c.whole ∨ refresh ≤ c.age + 1 then 3 else if 0 < c.full then 2 else leastN c n
def beginN (c : Cx) (a b d keep : Nat) : Cx := ⟨a, b, d, if 0 < c.kept then (c.turn + 1) % 4 else c.turn, 0, c.rank, keep, 0, 0, St.zero, St.zero, St.zero, St.zero, 0⟩
def addN (c : Cx) (n : St) (keep : Nat) : Cx := ⟨c.src, c.dst, c.port, c.turn, c.count, c.rank, c.whole, c.full, c.age, n, if 1 < keep then c.s0 else c.s1, if 2 < keep then c.s1 else c.s2, if 3 < keep then c.s2 else c.s3, if c.kept < keep then c.kept + 1 else c.kept⟩
def sentN (c : Cx) (kind : Nat) (n : St) (keep : Nat) : Cx :=
  addN ⟨c.src, c.dst, c.port, c.turn, wrap64 (c.count + 1), 0, if kind = 3 then c.whole - 1 else c.whole, if kind = 2 then c.full - 1 else c.full, if kind = 3 then 0 else c.age + 1, c.s0, c.s1, c.s2, c.s3, c.kept⟩ n keep

theorem foldl_max_le (l : List St) (n : St) (k : Nat) (h : k ≤ 2) : l.foldl (fun k r => max k (needsN n r)) k ≤ 2 := by
  induction l generalizing k with
  | nil => exact h
  | cons r l ih => exact ih _ (by have := needsN_le n r; show max k (needsN n r) ≤ 2; omega)
theorem leastN_le (c : Cx) (n : St) : leastN c n ≤ 2 := foldl_max_le _ _ _ (by omega)
theorem kindN_le (c : Cx) (n : St) (refresh : Nat) : kindN c n refresh ≤ 3 := by
  have := leastN_le c n
  unfold kindN; split <;> (try split) <;> omega
theorem beginN_ok {c : Cx} (hc : c.ok) {a b d keep : Nat} (ha : a < 4294967296) (hb : b < 4294967296) (hd : d < 65536) (hk : keep ≤ 4) : (beginN c a b d keep).ok :=
  ⟨ha, hb, hd, by unfold beginN; simp only; split; omega; exact hc.turn, trivial, hc.rank, hk, by simp [beginN], by simp [beginN], St.zero_ok, St.zero_ok, St.zero_ok, St.zero_ok, by simp [beginN]⟩
theorem sentN_ok {c : Cx} (hc : c.ok) {kind : Nat} {n : St} (hn : n.ok) {keep : Nat} (hk : keep ≤ 4) (h2 : c.age + 1 < 4611686018427387904) : (sentN c kind n keep).ok := by
  have hw := hc.whole
  have hf := hc.full
  have hkk := hc.kept
  refine ⟨hc.src, hc.dst, hc.port, hc.turn, trivial, by simp [sentN, addN], ?_, ?_, ?_, hn, ?_, ?_, ?_, ?_⟩ <;> simp only [sentN, addN]
  · split <;> omega
  · split <;> omega
  · split <;> omega
  · split; exact hc.s0; exact hc.s1
  · split; exact hc.s1; exact hc.s2
  · split; exact hc.s2; exact hc.s3
  · split <;> omega

/-- the check of a header -/
def chk (wd : Nat) (p : Pk) : Nat := plain.checkOf wd (hdrL p)
/-- what stands between a frame's first byte and its body -/
def toldN (kind : Nat) (n : St) (p : Pk) : List UInt8 :=
  if kind = 3 then hdrL p ++ be n.stride 2 ++ be (chk 8 p) 1
  else if kind = 2 then restL p ++ be n.stride 2 ++ be (chk 8 p) 1
  else if kind = 1 then be (n.seq % 256) 1 ++ be (n.offset % 256) 1 ++ be (n.lag % 256) 1 ++ be (chk 7 p) 1
  else be (16 * (n.seq % 16) + 2 * chk 3 p) 1
/-- a frame -/
def frameN (kind turn cid : Nat) (n : St) (p : Pk) : List UInt8 := be (64 * kind + 16 * turn + 2 * cid) 1 ++ toldN kind n p ++ p.body

end Go.Proofs.Ytgpojbgjfibblab.texts

namespace Go.Proofs.Ytgpojbgjfibblab.texts
set_option linter.unusedVariables false

/-- a length, as it is told -/
def toldL (n : Nat) : List UInt8 := if n < 128 then be n 1 else be (32768 + n) 2
theorem toldL_length (n : Nat) : (toldL n).length = if n < 128 then 1 else 2 := by
  unfold toldL; split <;> simp [be_length]
theorem toldL_le (n : Nat) : (toldL n).length ≤ 2 := by rw [toldL_length]; split <;> omega
theorem toldL_pos (n : Nat) : 1 ≤ (toldL n).length := by rw [toldL_length]; split <;> omega

/-- frames, one behind the other -/
def joinL : List (List UInt8) → List UInt8
  | [] => []
  | f :: r => toldL f.length ++ (f ++ joinL r)
theorem joinL_snoc (l : List (List UInt8)) (f : List UInt8) : joinL (l ++ [f]) = joinL l ++ (toldL f.length ++ f) := by
  induction l with
  | nil => simp [joinL]
  | cons g r ih => simp [joinL, ih]
theorem joinL_length (l : List (List UInt8)) (h : ∀ f ∈ l, f.length ≤ 300) : (joinL l).length ≤ 302 * l.length := by
  induction l with
  | nil => simp [joinL]
  | cons f r ih =>
    have h1 := h f (by simp)
    have h2 := ih (fun g hg => h g (by simp [hg]))
    have h3 := toldL_le f.length
    simp [joinL]
    omega

/-- what Join answers -/
def longOne (l : List (List UInt8)) : Bool := l.any fun f => decide (300 < f.length)
def joinE (l : List (List UInt8)) : Int := if 8 < l.length then 3 else if longOne l = true then 2 else 0
def joinR (l : List (List UInt8)) : List UInt8 := if joinE l = 0 then joinL l else []

/-- does a text begin with the length n and so many bytes? -/
def begins (s : List UInt8) (n : Nat) : Bool := decide (n ≤ 300) && decide (n < s.length) && decide ((toldL n).length + n ≤ s.length) && decide (s.take (toldL n).length = toldL n)
/-- the first frame of a text, by the least length with which it begins, tried from k on, m of them -/
def firstFrom (s : List UInt8) : Nat → Nat → Option Nat
  | _, 0 => none
  | k, m + 1 => if begins s k = true then some k else firstFrom s (k + 1) m
def firstN (s : List UInt8) : Option Nat := firstFrom s 0 301
def frameOf (s : List UInt8) (n : Nat) : List UInt8 := (s.drop (toldL n).length).take n
def restOf (s : List UInt8) (n : Nat) : List UInt8 := s.drop ((toldL n).length + n)

/-- the frames of a text, at most m of them -/
def splitL : Nat → List UInt8 → Option (List (List UInt8))
  | m, s => if s = [] then some [] else
    match firstN s with
    | none => none
    | some n => match m with
      | 0 => none
      | m + 1 => (splitL m (restOf s n)).map (frameOf s n :: ·)
def splitE (s : List UInt8) : Int := match splitL 8 s with | some _ => 0 | none => 4
def splitR (s : List UInt8) : List (List UInt8) := (splitL 8 s).getD []

theorem firstFrom_begins (s : List UInt8) (k m n : Nat) (h : firstFrom s k m = some n) : begins s n = true := by
  induction m generalizing k with
  | zero => simp [firstFrom] at h
  | succ m ih =>
    unfold firstFrom at h
    split at h
    · rename_i hb
      simp at h
      subst h
      exact hb
    · exact ih _ h
theorem begins_facts {s : List UInt8} {n : Nat} (h : begins s n = true) : n ≤ 300 ∧ n < s.length ∧ (toldL n).length + n ≤ s.length ∧ s.take (toldL n).length = toldL n := by
  unfold begins at h
  simp only [Bool.and_eq_true, decide_eq_true_eq] at h
  exact ⟨h.1.1.1, h.1.1.2, h.1.2, h.2⟩
theorem begins_mk {s : List UInt8} {n : Nat} (h1 : n ≤ 300) (h2 : n < s.length) (h3 : (toldL n).length + n ≤ s.length) (h4 : s.take (toldL n).length = toldL n) : begins s n = true := by
  unfold begins; simp [h1, h2, h3, h4]

end Go.Proofs.Ytgpojbgjfibblab.texts

namespace Go.Proofs.Ytgpojbgjfibblab.texts
open Go.RowKit
set_option linter.unusedVariables false
attribute [local go_sem ↓] Go.wp_at_zero Go.wp_at_succ
attribute [local go_sem] bs_size bs_append List.length_append bs_list bs_toList

/-- a slice value reads as a list of texts -/
structure TextsAt (w : World) (v : Value) (ls : List (List UInt8)) (ao : Option Addr) (b off cap : Nat) : Prop where
  form : v = .slice ao ls.length cap
  addr : 0 < ls.length → ao = some ⟨b, off, none⟩
  cell : ∀ i, i < ls.length → w.cell? ⟨b, off + i, none⟩ = some (.string (bs (ls[i]?.getD [])))
theorem TextsAt.lt {w : World} {v : Value} {ls : List (List UInt8)} {ao : Option Addr} {b off cap : Nat} (h : TextsAt w v ls ao b off cap) (hn : 0 < ls.length) : b < w.heap.size := by
  have h1 := h.cell 0 hn
  by_cases h2 : b < w.heap.size
  · exact h2
  · simp [World.cell?, Array.getElem?_eq_none (Nat.le_of_not_lt h2)] at h1
theorem TextsAt.keep {w w2 : World} {v : Value} {ls : List (List UInt8)} {ao : Option Addr} {b off cap : Nat} (h : TextsAt w v ls ao b off cap) (hb : Below w.heap.size w w2) : TextsAt w2 v ls ao b off cap :=
  ⟨h.form, h.addr, fun i hi => by rw [hb.cell (p := ⟨b, off + i, none⟩) (h.lt (by omega))]; exact h.cell i hi⟩

theorem ret_si' {a b : ByteArray} {c d : Int} (h : a = b) (g : c = d) : Ending.returned (.tuple #[.string a, .int .i64 c]) = .returned (.tuple #[.string b, .int .i64 d]) := by rw [h, g]

theorem joinE_many {ls : List (List UInt8)} (h : 8 < ls.length) : joinE ls = 3 ∧ joinR ls = [] := by
  have e : joinE ls = 3 := by unfold joinE; rw [if_pos h]
  exact ⟨e, by unfold joinR; rw [if_neg (by rw [e]; decide)]⟩
theorem joinE_long {ls : List (List UInt8)} (h : ¬ 8 < ls.length) {k : Nat} (hk : k < ls.length) (hl : 300 < (ls[k]?.getD []).length) : joinE ls = 2 ∧ joinR ls = [] := by
  have hm : longOne ls = true := by
    unfold longOne
    rw [List.any_eq_true]
    refine ⟨ls[k], List.getElem_mem hk, ?_⟩
    rw [List.getElem?_eq_getElem hk] at hl
    simpa using hl
  have e : joinE ls = 2 := by unfold joinE; rw [if_neg h, if_pos hm]
  exact ⟨e, by unfold joinR; rw [if_neg (by rw [e]; decide)]⟩
theorem joinE_good {ls : List (List UInt8)} (h : ¬ 8 < ls.length) (hl : ∀ f ∈ ls, f.length ≤ 300) : joinE ls = 0 ∧ joinR ls = joinL ls := by
  have hm : longOne ls = false := by
    unfold longOne
    rw [List.any_eq_false]
    intro f hf
    have := hl f hf
    simp; omega
  have e : joinE ls = 0 := by unfold joinE; rw [if_neg h, if_neg (by rw [hm]; decide)]
  exact ⟨e, by unfold joinR; rw [if_pos e]⟩
theorem take_next {ls : List (List UInt8)} {k : Nat} (hk : k < ls.length) : ls.take (k + 1) = ls.take k ++ [ls[k]?.getD []] := by
  rw [List.take_succ_eq_append_getElem hk, List.getElem?_eq_getElem hk]; rfl

end Go.Proofs.Ytgpojbgjfibblab.texts

namespace Go.Proofs.Ytgpojbgjfibblab.texts
open Go.RowKit
set_option linter.unusedVariables false
attribute [local go_sem ↓] Go.wp_at_zero Go.wp_at_succ
attribute [local go_sem] bs_size bs_append List.length_append bs_list bs_toList bs_extract

/-- what first answers -/
def firstF (s : List UInt8) : List UInt8 := match firstN s with | some n => frameOf s n | none => []
def firstR (s : List UInt8) : List UInt8 := match firstN s with | some n => restOf s n | none => []

theorem ret_ssb {a b c d : ByteArray} {x y : Bool} (h : a = b) (g : c = d) (i : x = y) : Ending.returned (.tuple #[.string a, .string c, .bool x]) = .returned (.tuple #[.string b, .string d, .bool y]) := by rw [h, g, i]

theorem firstN_found {s : List UInt8} {k : Nat} (h : firstN s = firstFrom s k (301 - k)) (hk : k ≤ 300) (hb : begins s k = true) : firstN s = some k := by
  rw [h, show 301 - k = (300 - k) + 1 by omega, firstFrom, if_pos hb]
theorem firstN_next {s : List UInt8} {k : Nat} (h : firstN s = firstFrom s k (301 - k)) (hk : k ≤ 300) (hb : begins s k = false) : firstN s = firstFrom s (k + 1) (301 - (k + 1)) := by
  rw [h, show 301 - k = (301 - (k + 1)) + 1 by omega, firstFrom, if_neg (by rw [hb]; decide)]
theorem firstFrom_none (s : List UInt8) (k m : Nat) (h : s.length ≤ k ∨ 300 < k) : firstFrom s k m = none := by
  induction m generalizing k with
  | zero => rfl
  | succ m ih =>
    rw [firstFrom, if_neg, ih (k + 1) (by omega)]
    intro hb
    have := begins_facts hb
    omega
theorem begins_no {s : List UInt8} {n : Nat} (h : ¬ ((toldL n).length + n ≤ s.length ∧ s.take (toldL n).length = toldL n)) : begins s n = false := by
  cases hb : begins s n
  · rfl
  · have := begins_facts hb
    exact absurd ⟨this.2.2.1, this.2.2.2⟩ h

theorem frame_cut {s : List UInt8} {k : Nat} (h : firstN s = some k) : bs (List.drop (toldL k).length (List.take ((toldL k).length + k) s)) = bs (firstF s) := by
  unfold firstF
  rw [h]
  simp only [frameOf]
  rw [List.drop_take, Nat.add_sub_cancel_left]

theorem infoS : (Try.prog.info? 9).map (fun i => (i.zero, i.size, i.bytes)) = some (some (.string ⟨#[]⟩), 1, 16) := by kernel_rfl
/-- texts as cells -/
def strs (l : List (List UInt8)) : List Value := l.map fun f => .string (bs f)
theorem strs_snoc (l : List (List UInt8)) (f : List UInt8) : strs (l ++ [f]) = strs l ++ [.string (bs f)] := by simp [strs]
theorem strs_length (l : List (List UInt8)) : (strs l).length = l.length := by simp [strs]
/-- the length of a text in a slot -/
def strLen : Value → Nat | .string b => b.size | _ => 0

theorem splitL_nil (m : Nat) : splitL m [] = some [] := by unfold splitL; rw [if_pos rfl]
theorem splitL_bad (m : Nat) {t : List UInt8} (ht : t ≠ []) (h : firstN t = none) : splitL m t = none := by
  unfold splitL; rw [if_neg ht, h]
theorem splitL_many {t : List UInt8} (ht : t ≠ []) : splitL 0 t = none := by
  unfold splitL; rw [if_neg ht]; cases firstN t <;> rfl
theorem splitL_step (m : Nat) {t : List UInt8} (ht : t ≠ []) {n : Nat} (h : firstN t = some n) : splitL (m + 1) t = (splitL m (restOf t n)).map (frameOf t n :: ·) := by
  conv => lhs; unfold splitL
  rw [if_neg ht, h]
theorem rest_lt {t : List UInt8} {n : Nat} (h : firstN t = some n) : (restOf t n).length < t.length := by
  have hb := begins_facts (firstFrom_begins _ _ _ _ h)
  have := toldL_pos n
  unfold restOf; simp; omega

/-- one frame more -/
theorem split_more {s t : List UInt8} {fr : List (List UInt8)} {n : Nat} (h : splitL 8 s = (splitL (8 - fr.length) t).map (fr ++ ·)) (hl : fr.length < 8) (ht : t ≠ []) (hn : firstN t = some n) :
    splitL 8 s = (splitL (8 - (fr ++ [frameOf t n]).length) (restOf t n)).map ((fr ++ [frameOf t n]) ++ ·) := by
  rw [h, show 8 - fr.length = (8 - (fr ++ [frameOf t n]).length) + 1 by simp; omega, splitL_step _ ht hn]
  cases splitL (8 - (fr ++ [frameOf t n]).length) (restOf t n) <;> simp

theorem own_more {B : Nat} {w wr w1 : World} {v v' : Value} {fr : List (List UInt8)} {f : List UInt8} {o : Obj} (hbel : Below B w wr) (hB : B ≤ wr.heap.size)
    (hown : wr.ownsRow B 9 1 v fr.length (strs fr)) (hown1 : w1.ownsRow B 9 1 v' (fr.length + 1) (strs fr ++ [.string (bs f)])) (hg : (wr.alloc o).grownBy w1 v.ownBlock) :
    w1.ownsRow B 9 1 v' (fr ++ [f]).length (strs (fr ++ [f])) ∧ Below B w w1 := by
  have hb1 : Below B w w1 := (hbel.alloc hB o).grown hg (by simp; omega) (fun k hk => (hown.lt k hk).1)
  refine ⟨?_, hb1⟩
  rw [strs_snoc]
  simpa using hown1

theorem own_keep {w w2 : World} {base : Nat} {e : TypeId} {size : Nat} {v : Value} {n : Nat} {xs : List Value} (h : w.ownsRow base e size v n xs) (hb : Below w.heap.size w w2) : w2.ownsRow base e size v n xs := by
  refine ⟨h.1, ?_⟩
  rcases h.2 with h2 | ⟨g, cap, cur, hv, hg, hh, r⟩
  · exact Or.inl h2
  · exact Or.inr ⟨g, cap, cur, hv, hg, by rw [hb.block g (Array.getElem?_eq_some_iff.1 hh).1]; exact hh, r⟩
theorem split_end {s : List UInt8} {fr : List (List UInt8)} (h : splitL 8 s = (splitL (8 - fr.length) []).map (fr ++ ·)) : splitE s = 0 ∧ splitR s = fr := by
  rw [splitL_nil] at h
  simp at h
  exact ⟨by unfold splitE; rw [h], by unfold splitR; rw [h]; rfl⟩
theorem split_fail {s T : List UInt8} {fr : List (List UInt8)} (h : splitL 8 s = (splitL (8 - fr.length) T).map (fr ++ ·)) (hT : splitL (8 - fr.length) T = none) : splitE s = 4 ∧ splitR s = [] := by
  rw [hT] at h
  simp at h
  exact ⟨by unfold splitE; rw [h], by unfold splitR; rw [h]; rfl⟩
theorem ret_vi {a b : Value} {c d : Int} (h : a = b) (g : c = d) : Ending.returned (.tuple #[a, .int .i64 c]) = .returned (.tuple #[b, .int .i64 d]) := by rw [h, g]
theorem own_slice {w : World} {base : Nat} {e : TypeId} {v : Value} {n : Nat} {xs : List Value} (h : w.ownsRow base e 1 v n xs) : ∃ ao cap, v = .slice ao n cap := by
  rcases h.2 with ⟨rfl, rfl⟩ | ⟨g, cap, cur, rfl, hb, hg, r⟩
  · exact ⟨none, 0, rfl⟩
  · exact ⟨some ⟨g, 0, none⟩, cap, rfl⟩

end Go.Proofs.Ytgpojbgjfibblab.texts
