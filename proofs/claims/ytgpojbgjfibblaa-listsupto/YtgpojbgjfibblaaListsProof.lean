/-
  Proved: the statement Lists holds: what is joined and split is as the reference says; the lists that came out stay what the caller made them; nothing that was handed in is changed.
  Condition (the statement's own second form): what is handed in is of bulk at most 1048576.
-/
import Derived.Test.YtgpojbgjfibblaaRows
import Derived.Test.YtgpojbgjfibblaaListsWalk
import Derived.Test.YtgpojbgjfibblaaOpenTexts
import Derived.WalkKit
import Derived.ProofKit
import Derived.OpenShut
import Derived.ShutString
import Derived.Below
import Derived.Carry
import Derived.JoinedCond
namespace Go.Proofs.Ytgpojbgjfibblaa.lists
open Go.ChangeShapes Go.WideShapes Go.ChangeAt Go.RowKit
open Go.ChangeMaps (open_string shut_string)
set_option linter.unusedVariables false

theorem own : ownKnob Try.prog.godebug = none := by kernel_rfl

theorem laidOut : laidOutB Try.prog = true := by kernel_rfl

theorem bulk_texts {H : Type} (ls : List (List UInt8)) : ls.length ≤ Rows.uptoBulkAll (ls.map fun f => (DataW.lit (.string f) : DataW H)) := by
  induction ls with
  | nil => simp
  | cons f r ih => simp only [List.map_cons, List.length_cons, Rows.uptoBulkAll, Rows.uptoBulk]; omega
theorem bulk_one {H : Type} {d : DataW H} {ls : List (List UInt8)} (h : ls = [] ∨ ∃ sp, d = .slice (ls.map fun f => .lit (.string f)) sp) : ls.length ≤ Rows.uptoBulk d := by
  rcases h with rfl | ⟨sp, rfl⟩
  · simp
  · have := bulk_texts (H := H) ls
    simp only [Rows.uptoBulk]; omega
theorem short {H : Type} {d1 d2 : DataW H} {l1 l2 : List (List UInt8)} (hk : Rows.uptoSmall H [d1, d2] = true) (h1 : l1 = [] ∨ ∃ sp, d1 = .slice (l1.map fun f => .lit (.string f)) sp) (h2 : l2 = [] ∨ ∃ sp, d2 = .slice (l2.map fun f => .lit (.string f)) sp) :
    l1.length ≤ 1048576 ∧ l2.length ≤ 1048576 := by
  have h : Rows.uptoBulkAll [d1, d2] ≤ 1048576 := of_decide_eq_true hk
  simp only [Rows.uptoBulkAll] at h
  have := bulk_one h1
  have := bulk_one h2
  omega

set_option maxRecDepth 100000 in
theorem contract (H : Type) (enc : TypeId × Value → H) (W : World) (base : Nat) (args : Array Value) (ds gs : List (DataW H)) (before : List MemPlace)
    (hval : ∀ (j : Nat) t v, Try.f8.params[j]? = some t → args[j]? = some v → Value.okWide Try.prog W .any base t v)
    (hW : DataW.Whole enc Try.prog Try.f8.params.toList Rows.listsSpec.vars false W args.toList ds gs before) (hk : Rows.uptoSmall H (ds ++ gs) = true) :
    Calls Try.prog 8 args W fun e W' => ∃ v, e = .returned v ∧ Rows.listsSpec.post enc Try.prog Try.f8 false true false false W args v W' := by
  have hW' := hW
  obtain ⟨p, q, hA0, hV, rfl, hfz, hnd⟩ := hW
  have hA : DataW.TrodAll enc Try.prog W 0 (fun _ => true) true Try.f8.params.toList args.toList ds p := hA0
  rw [Try.params8] at hA hval
  obtain ⟨v0, vs0, d0, ds0, p0, q0, hargs, rfl, rfl, h0, r0⟩ := trodAll_cons hA
  obtain ⟨v1, vs1, d1, ds1, p1, q1, rfl, rfl, rfl, h1, r1⟩ := trodAll_cons r0
  obtain ⟨rfl, rfl, rfl⟩ := trodAll_nil r1
  obtain rfl : args = #[v0, v1] := by cases args; simp_all
  obtain ⟨rfl, rfl⟩ := trodVars_none hV
  have k0 := h0
  have lt0 : ∀ x ∈ p0, x.block < W.heap.size := by obtain ⟨m, hm⟩ := k0; exact DataW.trod_lt m _ _ _ hm
  have hv0 := okWide_slice Try.underlying63 (hval 0 63 v0 rfl rfl)
  obtain ⟨fuel, hf⟩ := h0
  obtain ⟨ls, ao, bb, off, cap, hT, hll, hfl, hx0⟩ := texts.open_texts hv0 hf
  have k1 := h1
  have lt1 : ∀ x ∈ p1, x.block < W.heap.size := by obtain ⟨m, hm⟩ := k1; exact DataW.trod_lt m _ _ _ hm
  have hv1 := okWide_slice Try.underlying63 (hval 1 63 v1 rfl rfl)
  obtain ⟨fuel1, hf1⟩ := h1
  obtain ⟨ls1, ao1, bb1, off1, cap1, hT1, hll1, hfl1, hx1⟩ := texts.open_texts hv1 hf1
  clear hA0
  simp only [List.append_nil] at hW' hk
  obtain ⟨n1, n2⟩ := short hk hx0 hx1
  refine (texts.lists_any W v0 v1 ls ls1 ao ao1 bb off cap bb1 off1 cap1 hT hT1 n1 n2 (fun i hi => by rw [List.getElem?_eq_getElem hi]; have := hfl1 _ (List.getElem_mem hi); unfold maxLen at this; simpa using this)).mono fun e W' ⟨he, bel⟩ => ?_
  subst he
  exact ⟨_, rfl, _, _, _, [], _, [], hW', trodAll_mk1 (shut_bool Try.underlying4 _), (trodAll_cons_mk (Below.trod laidOut (by kernel_rfl) (of_decide_eq_true (by kernel_rfl)) k0 bel lt0) (trodAll_cons_mk (Below.trod laidOut (by kernel_rfl) (of_decide_eq_true (by kernel_rfl)) k1 bel lt1) trodAll_mk0)), rfl, bel.frame _, fun h => by cases h⟩

set_option maxRecDepth 100000 in
theorem lifted (os : Os) (started : os.Started) (H : Type) (enc : TypeId × Value → H) (F : Stop.Interp) :
    ReturnsInHanded {} Try.checked os 8 .any ((Rows.OpenSpec.upto Rows.listsSpec).pre6 enc Try.prog Try.f8 Rows.listsUptoRow.domain false) (((Rows.OpenSpec.upto Rows.listsSpec).at F).post enc Try.prog Try.f8 false true false false) := by
  refine returnsInHanded_of_cond (C := Try.checked) (s := Rows.OpenSpec.upto Rows.listsSpec) (k := Rows.uptoSmall) rfl own started (by kernel_rfl) Try.func8
    (OpenSpec.witness (enc := enc) (C := Try.checked) (s := Rows.OpenSpec.upto Rows.listsSpec) (k := Rows.uptoSmall) rfl false ⟨#[], #[.slice none 0 0, .slice none 0 0], []⟩ 8 (by kernel_rfl) (by kernel_rfl) (by kernel_rfl)
      (x := ([.nil, .nil], [], [])) (by kernel_rfl) rfl (by kernel_rfl)) ?_
  intro W base args ds gs before hval hW _ hk _
  exact contract H enc W base args ds gs before hval hW hk

theorem over : Rows.listsUptoRow.holds Try.pinned (Rows.OpenSpec.upto Rows.listsSpec) :=
  OpenClaim.holds_of_cond 8 Try.f8 rfl rfl rfl rfl rfl rfl rfl ⟨rfl, rfl, rfl, rfl, rfl⟩ rfl rfl rfl rfl rfl (by kernel_rfl) Try.func8 (by kernel_rfl)
    (of_decide_eq_true (by kernel_rfl)) (by unfold Func.isWrapper; first | (rw [if_pos (by decide +kernel)]; kernel_rfl) | (rw [if_neg (by decide +kernel)]; exact ⟨rfl, rfl⟩))
    (fun os started H enc _ F => lifted os started H enc F)

theorem proved : Rows.ListsUptoSaid :=
  over
#print axioms proved
end Go.Proofs.Ytgpojbgjfibblaa.lists
