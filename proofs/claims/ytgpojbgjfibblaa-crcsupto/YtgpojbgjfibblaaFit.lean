/-
  The walks of the program's Low32, Fits16, Fits32 and of the package gist's calls of them.
  Conditions stand in each theorem.
-/
import Derived.Test.YtgpojbgjfibblaaBits
namespace Go.Proofs.Ytgpojbgjfibblaa.bits
open Go.RowKit
set_option linter.unusedVariables false

theorem ret_bi {j : IntKind} {a b : Bool} {c d : Int} (h : a = b) (g : c = d) : Ending.returned (.tuple #[.bool a, .int j c]) = .returned (.tuple #[.bool b, .int j d]) := by rw [h, g]

set_option maxHeartbeats 400000 in
theorem low32_in (r k p b : Int) (w : World) (hr : 0 ≤ r) (hr' : r ≤ 4294967295) (hp : 0 ≤ p) (hp' : p ≤ 4294967295) (hb : 0 ≤ b) (hb' : b ≤ 4294967295) :
    Calls Try.prog 51 #[.int .u32 r, .int .i64 k, .int .u32 p, .int .u32 b] w fun e w' => e = .returned (.tuple #[.int .u32 (lowR 32 k r p b), .int .i64 (lowE 32 k p b)]) ∧ w' = w := by
  by_cases h : cnt k 32 ≤ p ∨ cnt k 32 ≤ b
  · have e1 : Hid (lowR 32 k r p b = 0) := lowR_bad h
    have e2 : Hid (lowE 32 k p b = 1) := lowE_bad h
    go_enter Try.func51, Try.ntmps51
    go_wp2_with (go_at_call 85; refine (low_bad _ _ _ _ _ _ (by decide) h).mono ?_; rintro e w' ⟨rfl, rfl⟩)
    go_ret2
    exact ⟨ret_two e1.out.symm e2.out.symm, rfl⟩
  · have h1 : p < cnt k 32 := by omega
    have h3 : b < cnt k 32 := by omega
    have e1 : Hid (glow (cnt k 32) r p b % 2 ^ 32 = lowR 32 k r p b) := glow_lowR 32 k r p b hp (by decide) (by decide) h1 h3
    have e2 : Hid (lowE 32 k p b = 0) := lowE_good h1 h3
    go_enter Try.func51, Try.ntmps51
    go_wp2_with (go_at_call 85; refine (low_good _ _ _ _ _ _ (by decide) h1 h3).mono ?_; rintro e w' ⟨rfl, rfl⟩)
    go_ret2
    exact ⟨ret_two (by rw [← e1.out]; rfl) e2.out.symm, rfl⟩

theorem ahead_eq (wd : Nat) (v r p : Int) (hw : wd ≤ 32) :
    bits BinOp.and IntKind.u64 (IntKind.u64.wrap (v - IntKind.u64.wrap (r - p))) (IntKind.u64.wrap (2 ^ wd - 1)) = (v - (r - p)) % 2 ^ wd := by
  rw [and_mask _ _ hw, plain.emod_emod_two (show wd ≤ 64 by omega), IntKind.wrap_u64]
  have e : (18446744073709551616 : Int) = 2 ^ 64 := by decide
  rw [e, ← Int.sub_emod_emod, plain.emod_emod_two (show wd ≤ 64 by omega), Int.sub_emod_emod]

theorem fitR_good {wd v r k p : Int} (hp : p < cnt k wd) : fitR wd v r k p = decide ((v - (r - p)) % 2 ^ wd.toNat < cnt k wd) := by
  unfold fitR; simp [hp]
theorem fitR_bad {wd v r k p : Int} (hp : cnt k wd ≤ p) : fitR wd v r k p = false := by
  unfold fitR; simp; omega
theorem fitE_good {wd k p : Int} (hp : p < cnt k wd) : fitE wd k p = 0 := by unfold fitE; rw [if_pos hp]
theorem fitE_bad {wd k p : Int} (hp : cnt k wd ≤ p) : fitE wd k p = 1 := by unfold fitE; rw [if_neg (by omega)]

set_option maxHeartbeats 400000 in
theorem fits_any (wd v r k p : Int) (w : World) (h0 : 0 ≤ wd) (h2 : wd ≤ 32) :
    Calls Try.prog 87 #[.int .i64 wd, .int .u64 v, .int .u64 r, .int .i64 k, .int .u64 p] w fun e w' => e = .returned (.tuple #[.bool (fitR wd v r k p), .int .i64 (fitE wd k p)]) ∧ w' = w := by
  by_cases hp : cnt k wd ≤ p
  · have e1 : Hid (fitR wd v r k p = false) := fitR_bad hp
    have e2 : Hid (fitE wd k p = 1) := fitE_bad hp
    go_enter Try.func87, Try.ntmps87
    go_wp2_with (go_at_call 106; refine (count_any _ _ _ h2).mono ?_; rintro e w' ⟨rfl, rfl⟩)
    go_ret2
    exact ⟨ret_bi e1.out.symm e2.out.symm, rfl⟩
  · have hp' : p < cnt k wd := by omega
    have e1 : Hid (fitR wd v r k p = decide ((v - (r - p)) % 2 ^ wd.toNat < cnt k wd)) := fitR_good hp'
    have e2 : Hid (fitE wd k p = 0) := fitE_good hp'
    have e3 : Hid (cnt wd wd = 2 ^ wd.toNat) := cnt_good h0 (by omega)
    go_enter Try.func87, Try.ntmps87
    go_wp2_with (go_at_call 106; refine (count_any _ _ _ h2).mono ?_; rintro e w' ⟨rfl, rfl⟩)
    go_ret2
    refine ⟨ret_bi ?_ e2.out.symm, rfl⟩
    rw [e1.out, e3.out, ahead_eq _ _ _ _ (by omega)]

set_option maxHeartbeats 400000 in
theorem fits16_in (v r k p : Int) (w : World) (hv : 0 ≤ v) (hv' : v ≤ 65535) (hr : 0 ≤ r) (hr' : r ≤ 65535) (hp : 0 ≤ p) (hp' : p ≤ 65535) :
    Calls Try.prog 52 #[.int .u16 v, .int .u16 r, .int .i64 k, .int .u16 p] w fun e w' => e = .returned (.tuple #[.bool (fitR 16 v r k p), .int .i64 (fitE 16 k p)]) ∧ w' = w := by
  go_enter Try.func52, Try.ntmps52
  go_wp2_with (go_at_call 87; refine (fits_any _ _ _ _ _ _ (by decide) (by decide)).mono ?_; rintro e w' ⟨rfl, rfl⟩)
  go_ret2
  exact ⟨rfl, rfl⟩

set_option maxHeartbeats 400000 in
theorem fits32_in (v r k p : Int) (w : World) (hv : 0 ≤ v) (hv' : v ≤ 4294967295) (hr : 0 ≤ r) (hr' : r ≤ 4294967295) (hp : 0 ≤ p) (hp' : p ≤ 4294967295) :
    Calls Try.prog 54 #[.int .u32 v, .int .u32 r, .int .i64 k, .int .u32 p] w fun e w' => e = .returned (.tuple #[.bool (fitR 32 v r k p), .int .i64 (fitE 32 k p)]) ∧ w' = w := by
  go_enter Try.func54, Try.ntmps54
  go_wp2_with (go_at_call 87; refine (fits_any _ _ _ _ _ _ (by decide) (by decide)).mono ?_; rintro e w' ⟨rfl, rfl⟩)
  go_ret2
  exact ⟨rfl, rfl⟩

set_option maxHeartbeats 400000 in
theorem low16_any (r k p b : Int) (w : World) (hr : 0 ≤ r) (hr' : r ≤ 65535) (hp : 0 ≤ p) (hp' : p ≤ 65535) (hb : 0 ≤ b) (hb' : b ≤ 65535) :
    Calls Try.prog 18 #[.int .u16 r, .int .i64 k, .int .u16 p, .int .u16 b] w fun e w' => e = .returned (.tuple #[.int .u16 (lowR 16 k r p b), .int .i64 (lowE 16 k p b)]) ∧ w' = w := by
  go_enter Try.func18, Try.ntmps18
  go_wp2_with (go_at_call 48; refine (low16_in _ _ _ _ _ hr hr' hp hp' hb hb').mono ?_; rintro e w' ⟨rfl, rfl⟩)
  go_ret2
  exact ⟨rfl, rfl⟩

set_option maxHeartbeats 400000 in
theorem low32_any (r k p b : Int) (w : World) (hr : 0 ≤ r) (hr' : r ≤ 4294967295) (hp : 0 ≤ p) (hp' : p ≤ 4294967295) (hb : 0 ≤ b) (hb' : b ≤ 4294967295) :
    Calls Try.prog 20 #[.int .u32 r, .int .i64 k, .int .u32 p, .int .u32 b] w fun e w' => e = .returned (.tuple #[.int .u32 (lowR 32 k r p b), .int .i64 (lowE 32 k p b)]) ∧ w' = w := by
  go_enter Try.func20, Try.ntmps20
  go_wp2_with (go_at_call 51; refine (low32_in _ _ _ _ _ hr hr' hp hp' hb hb').mono ?_; rintro e w' ⟨rfl, rfl⟩)
  go_ret2
  exact ⟨rfl, rfl⟩

set_option maxHeartbeats 400000 in
theorem fits16_any (v r k p : Int) (w : World) (hv : 0 ≤ v) (hv' : v ≤ 65535) (hr : 0 ≤ r) (hr' : r ≤ 65535) (hp : 0 ≤ p) (hp' : p ≤ 65535) :
    Calls Try.prog 21 #[.int .u16 v, .int .u16 r, .int .i64 k, .int .u16 p] w fun e w' => e = .returned (.tuple #[.bool (fitR 16 v r k p), .int .i64 (fitE 16 k p)]) ∧ w' = w := by
  go_enter Try.func21, Try.ntmps21
  go_wp2_with (go_at_call 52; refine (fits16_in _ _ _ _ _ hv hv' hr hr' hp hp').mono ?_; rintro e w' ⟨rfl, rfl⟩)
  go_ret2
  exact ⟨rfl, rfl⟩

set_option maxHeartbeats 400000 in
theorem fits32_any (v r k p : Int) (w : World) (hv : 0 ≤ v) (hv' : v ≤ 4294967295) (hr : 0 ≤ r) (hr' : r ≤ 4294967295) (hp : 0 ≤ p) (hp' : p ≤ 4294967295) :
    Calls Try.prog 23 #[.int .u32 v, .int .u32 r, .int .i64 k, .int .u32 p] w fun e w' => e = .returned (.tuple #[.bool (fitR 32 v r k p), .int .i64 (fitE 32 k p)]) ∧ w' = w := by
  go_enter Try.func23, Try.ntmps23
  go_wp2_with (go_at_call 54; refine (fits32_in _ _ _ _ _ hv hv' hr hr' hp hp').mono ?_; rintro e w' ⟨rfl, rfl⟩)
  go_ret2
  exact ⟨rfl, rfl⟩

end Go.Proofs.Ytgpojbgjfibblaa.bits
