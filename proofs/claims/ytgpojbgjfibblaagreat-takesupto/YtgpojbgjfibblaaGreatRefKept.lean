/-
  The document's contexts in memory (package gistref); the walks of kept and kind.
  Conditions stand in each theorem.
-/
import Derived.Test.YtgpojbgjfibblaaGreatRefSays
namespace Go.Proofs.YtgpojbgjfibblaaGreat.texts
open Go.RowKit
set_option linter.unusedVariables false
attribute [local go_sem ↓] Go.wp_at_zero Go.wp_at_succ

theorem rsays_any (kind turn cid : Nat) (p : Pk) (n : St) (w : World) (hk : kind ≤ 3) (hp : p.ok) (hn : n.ok) (hc : cid < 8) (ht : turn < 4) (hb : p.body.length ≤ 100) :
    Calls Tryz.prog 54 #[.int .i64 kind, .int .i64 turn, .int .i64 cid, .agg n.flat, .agg p.flat] w fun e w' => e = .returned (.string (bs (frameN kind turn cid n p))) ∧ Below w.heap.size w w' := by
  obtain rfl | rfl | rfl | rfl : kind = 0 ∨ kind = 1 ∨ kind = 2 ∨ kind = 3 := by omega
  · exact rsays_0 turn cid p n w hp hn hc ht hb
  · exact rsays_1 turn cid p n w hp hn hc ht hb
  · exact rsays_2 turn cid p n w hp hn hc ht hb
  · exact rsays_3 turn cid p n w hp hn hc ht hb

/-- a list of states in memory -/
def StsAt (w : World) (v : Value) (l : List St) : Prop :=
  (l = [] ∧ v = .slice none 0 0) ∨ ∃ q o cap, v = .slice (some ⟨q, o, none⟩) l.length cap ∧ l.length ≤ cap ∧ l.length ≤ 1000 ∧ ∀ i (h : i < l.length), w.rangeAt q (o + i * 5) (l[i]).flat.toList

set_option maxRecDepth 100000 in
set_option maxHeartbeats 1000000 in
theorem rkept_any (X : Array Value) (v : Value) (l : List St) (keep : Nat) (w : World) (hX : X[5]? = some v) (hv : StsAt w v l) (hk : 1 ≤ keep) (hk4 : keep ≤ 4) :
    Calls Tryz.prog 53 #[.agg X, .int .i64 keep] w fun e w' => ∃ v', e = .returned v' ∧ StsAt w v' (l.drop (l.length - keep)) ∧ Below w.heap.size w w' := by
  have HV := hide hv
  rcases hv with ⟨rfl, rfl⟩ | ⟨q, o, cap, rfl, hcap, hcap2, hr⟩
  · go_enter Tryz.func53, Tryz.ntmps53
    go_wp2
    go_ret
    exact ⟨_, rfl, by simpa using unhide HV, (Below.refl _ _).alloc (Nat.le_refl _) _⟩
  · have HR := hide hr
    clear hr
    by_cases h : keep < l.length
    · have i0 : (0 : Int) ≤ (l.length : Int) - keep := by omega
      have i1 : (l.length : Int) - keep ≤ l.length := by omega
      have x1 : IntKind.i64.wrap ((l.length : Int) - keep) = (l.length : Int) - keep := by rw [IntKind.wrap_i64]; omega
      go_enter Tryz.func53, Tryz.ntmps53
      go_wp2
      go_ret
      refine ⟨_, rfl, Or.inr ⟨q, o + (l.length - keep) * 5, cap - (l.length - keep), by rw [List.length_drop]; rfl, by rw [List.length_drop]; omega, by rw [List.length_drop]; omega, fun i hi => ?_⟩, (Below.refl _ _).alloc (Nat.le_refl _) _⟩
      have hi' : l.length - keep + i < l.length := by rw [List.length_drop] at hi; omega
      have := (unhide HR) (l.length - keep + i) hi'
      rw [List.getElem_drop]
      rw [show o + (l.length - keep) * 5 + i * 5 = o + (l.length - keep + i) * 5 by omega]
      exact this
    · have e : l.length - keep = 0 := by omega
      rw [e]
      go_enter Tryz.func53, Tryz.ntmps53
      go_wp2
      go_ret
      exact ⟨_, rfl, by simpa using unhide HV, (Below.refl _ _).alloc (Nat.le_refl _) _⟩

end Go.Proofs.YtgpojbgjfibblaaGreat.texts
