/-
  Small facts for the statements on low bits: bounds, and what num gives.
  No condition.
-/
import Derived.Test.YtgpojbgjfibblaaRefOf
namespace Go.Proofs.Ytgpojbgjfibblaa.bits
open Go.RowKit
set_option linter.unusedVariables false

theorem wrap16_bd (a : Int) : 0 ≤ IntKind.u16.wrap a ∧ IntKind.u16.wrap a ≤ 65535 := by
  rw [IntKind.wrap_u16]; omega
theorem lowR16_bd (k r p b : Int) : 0 ≤ lowR 16 k r p b ∧ lowR 16 k r p b ≤ 65535 := by
  have h := lowR_bd 16 k r p b
  have e : (2 : Int) ^ (16 : Int).toNat = 65536 := by decide
  omega
theorem lowR32_bd (k r p b : Int) : 0 ≤ lowR 32 k r p b ∧ lowR 32 k r p b ≤ 4294967295 := by
  have h := lowR_bd 32 k r p b
  have e : (2 : Int) ^ (32 : Int).toNat = 4294967296 := by decide
  omega
theorem pw16 : 65536 ≤ pw 16 := by decide
theorem pw32 : 4294967296 ≤ pw 32 := by decide

set_option maxHeartbeats 400000 in
theorem num_any (a : Int) (w : World) :
    Calls Try.prog 17 #[.int .i64 a] w fun e w' => e = .returned (.int .i64 a) ∧ w' = w := by
  go_enter Try.func17, Try.ntmps17
  go_wp2
  go_ret
  exact ⟨rfl, rfl⟩

end Go.Proofs.Ytgpojbgjfibblaa.bits
