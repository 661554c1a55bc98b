/-
  No cell of these rows narrows 'for every input' (looked for: loops, veiled, ifaces, maps, wideKeys, modest, calm, conditions, laid).
  DERIVED. THE GIVEN ROWS OF THIS SEAT. 10 by the template 'for every input the law returns true; each argument reads behind the call as it read before'; 0 by the template 'total and deterministic' (their statements: YtgpojbgjfibblaaTotals.lean).
  GIVEN WITH THE SEED: the statements are not yours to turn. If you find one false, say at which input.
  Laid BY PROGRAM, IN A SANDBOX (cutbox-rows.mjs): the forced cells as the released guide's own fill.sh prints them over the translation 3d0cdc062e0d1ca3… (all of the seat's roots in one cut). By AI agents, Wed Nov 11 2026. No macro, syntax, notation, axiom, sorry.
-/
import Derived.Test.YtgpojbgjfibblaaChecked
import GoSem.Claim
import GoSem.ClaimJoined
import GoSem.ClaimMapViews
import Derived.JoinedTies
import Derived.KernelRfl
namespace Go.Proofs.Ytgpojbgjfibblaa
/- THE CELL 'sum', in the pinned program and in every row, IS THE sha256 OF THE DUMP (.gsa) THAT YtgpojbgjfibblaaProg.lean LOADS. Nothing in Lean hashes anything: it is a label: what it is worth is what the hold of that sum in a sandbox is worth. -/
noncomputable def Try.pinned : Pinned := { name := "ytgpojbgjfibblaa", sum := "3d0cdc062e0d1ca312ecc255a522fb81edfbe586019356cd1737657398a0e8aa", checked := Try.checked }
namespace Rows
def none {H : Type} : Left H := { results := [], args := [] }

/-- 'gistlaw.Crcs': WHATEVER THE INPUT: true; the input reads as it did. -/
def crcsSpec : ChangeSpec := { name := "crcs", fn := fun _ => fun
  | [d1, d2] => { results := [.lit (.bool true)], args := [d1, d2] }
  | _ => none }
def crcsRow : OpenClaim := { program := "ytgpojbgjfibblaa", sum := "3d0cdc062e0d1ca312ecc255a522fb81edfbe586019356cd1737657398a0e8aa", func := "gist/gistlaw.Crcs", spec := "crcs", apart := false }
def CrcsSaid : Prop := crcsRow.holds Try.pinned (OpenSpec.ofChange crcsSpec)

/-- ITS FALSE NEIGHBOUR: 'it returns false'. Refute it at one input. -/
def crcsWrong : ChangeSpec := { name := "crcs", fn := fun _ => fun
  | [d1, d2] => { results := [.lit (.bool false)], args := [d1, d2] }
  | _ => none }
def CrcsWrongFalsely : Prop := crcsRow.holds Try.pinned (OpenSpec.ofChange crcsWrong)

/-- 'gistlaw.Lows': WHATEVER THE INPUT: true; the input reads as it did. -/
def lowsSpec : ChangeSpec := { name := "lows", fn := fun _ => fun
  | [d1, d2, d3, d4] => { results := [.lit (.bool true)], args := [d1, d2, d3, d4] }
  | _ => none }
def lowsRow : OpenClaim := { program := "ytgpojbgjfibblaa", sum := "3d0cdc062e0d1ca312ecc255a522fb81edfbe586019356cd1737657398a0e8aa", func := "gist/gistlaw.Lows", spec := "lows", apart := false }
def LowsSaid : Prop := lowsRow.holds Try.pinned (OpenSpec.ofChange lowsSpec)

/-- ITS FALSE NEIGHBOUR: 'it returns false'. Refute it at one input. -/
def lowsWrong : ChangeSpec := { name := "lows", fn := fun _ => fun
  | [d1, d2, d3, d4] => { results := [.lit (.bool false)], args := [d1, d2, d3, d4] }
  | _ => none }
def LowsWrongFalsely : Prop := lowsRow.holds Try.pinned (OpenSpec.ofChange lowsWrong)

/-- 'gistkeep.Tells': WHATEVER THE INPUT: true; the input reads as it did. -/
def tellsSpec : ChangeSpec := { name := "tells", fn := fun _ => fun
  | [d1, d2, d3, d4] => { results := [.lit (.bool true)], args := [d1, d2, d3, d4] }
  | _ => none }
def tellsRow : OpenClaim := { program := "ytgpojbgjfibblaa", sum := "3d0cdc062e0d1ca312ecc255a522fb81edfbe586019356cd1737657398a0e8aa", func := "gist/gistkeep.Tells", spec := "tells", apart := false }
def TellsSaid : Prop := tellsRow.holds Try.pinned (OpenSpec.ofChange tellsSpec)

/-- ITS FALSE NEIGHBOUR: 'it returns false'. Refute it at one input. -/
def tellsWrong : ChangeSpec := { name := "tells", fn := fun _ => fun
  | [d1, d2, d3, d4] => { results := [.lit (.bool false)], args := [d1, d2, d3, d4] }
  | _ => none }
def TellsWrongFalsely : Prop := tellsRow.holds Try.pinned (OpenSpec.ofChange tellsWrong)

/-- 'gistlaw.Packets': WHATEVER THE INPUT: true; the input reads as it did. -/
def packetsSpec : ChangeSpec := { name := "packets", fn := fun _ => fun
  | [d1, d2] => { results := [.lit (.bool true)], args := [d1, d2] }
  | _ => none }
def packetsRow : OpenClaim := { program := "ytgpojbgjfibblaa", sum := "3d0cdc062e0d1ca312ecc255a522fb81edfbe586019356cd1737657398a0e8aa", func := "gist/gistlaw.Packets", spec := "packets", apart := false }
def PacketsSaid : Prop := packetsRow.holds Try.pinned (OpenSpec.ofChange packetsSpec)

/-- ITS FALSE NEIGHBOUR: 'it returns false'. Refute it at one input. -/
def packetsWrong : ChangeSpec := { name := "packets", fn := fun _ => fun
  | [d1, d2] => { results := [.lit (.bool false)], args := [d1, d2] }
  | _ => none }
def PacketsWrongFalsely : Prop := packetsRow.holds Try.pinned (OpenSpec.ofChange packetsWrong)

/-- 'gistkeep.Back': WHATEVER THE INPUT: true; the input reads as it did. -/
def backSpec : ChangeSpec := { name := "back", fn := fun _ => fun
  | [d1, d2, d3] => { results := [.lit (.bool true)], args := [d1, d2, d3] }
  | _ => none }
def backRow : OpenClaim := { program := "ytgpojbgjfibblaa", sum := "3d0cdc062e0d1ca312ecc255a522fb81edfbe586019356cd1737657398a0e8aa", func := "gist/gistkeep.Back", spec := "back", apart := false }
def BackSaid : Prop := backRow.holds Try.pinned (OpenSpec.ofChange backSpec)

/-- ITS FALSE NEIGHBOUR: 'it returns false'. Refute it at one input. -/
def backWrong : ChangeSpec := { name := "back", fn := fun _ => fun
  | [d1, d2, d3] => { results := [.lit (.bool false)], args := [d1, d2, d3] }
  | _ => none }
def BackWrongFalsely : Prop := backRow.holds Try.pinned (OpenSpec.ofChange backWrong)

/-- 'gistlaw.Lists': WHATEVER THE INPUT: true; the input reads as it did. -/
def listsSpec : ChangeSpec := { name := "lists", fn := fun _ => fun
  | [d1, d2] => { results := [.lit (.bool true)], args := [d1, d2] }
  | _ => none }
def listsRow : OpenClaim := { program := "ytgpojbgjfibblaa", sum := "3d0cdc062e0d1ca312ecc255a522fb81edfbe586019356cd1737657398a0e8aa", func := "gist/gistlaw.Lists", spec := "lists", apart := false }
def ListsSaid : Prop := listsRow.holds Try.pinned (OpenSpec.ofChange listsSpec)

/-- ITS FALSE NEIGHBOUR: 'it returns false'. Refute it at one input. -/
def listsWrong : ChangeSpec := { name := "lists", fn := fun _ => fun
  | [d1, d2] => { results := [.lit (.bool false)], args := [d1, d2] }
  | _ => none }
def ListsWrongFalsely : Prop := listsRow.holds Try.pinned (OpenSpec.ofChange listsWrong)

/-- 'gistkeep.Again': WHATEVER THE INPUT: true; the input reads as it did. -/
def againSpec : ChangeSpec := { name := "again", fn := fun _ => fun
  | [d1, d2] => { results := [.lit (.bool true)], args := [d1, d2] }
  | _ => none }
def againRow : OpenClaim := { program := "ytgpojbgjfibblaa", sum := "3d0cdc062e0d1ca312ecc255a522fb81edfbe586019356cd1737657398a0e8aa", func := "gist/gistkeep.Again", spec := "again", apart := false }
def AgainSaid : Prop := againRow.holds Try.pinned (OpenSpec.ofChange againSpec)

/-- ITS FALSE NEIGHBOUR: 'it returns false'. Refute it at one input. -/
def againWrong : ChangeSpec := { name := "again", fn := fun _ => fun
  | [d1, d2] => { results := [.lit (.bool false)], args := [d1, d2] }
  | _ => none }
def AgainWrongFalsely : Prop := againRow.holds Try.pinned (OpenSpec.ofChange againWrong)

/-- 'gistkeep.Exact': WHATEVER THE INPUT: true; the input reads as it did. -/
def exactSpec : ChangeSpec := { name := "exact", fn := fun _ => fun
  | [d1, d2] => { results := [.lit (.bool true)], args := [d1, d2] }
  | _ => none }
def exactRow : OpenClaim := { program := "ytgpojbgjfibblaa", sum := "3d0cdc062e0d1ca312ecc255a522fb81edfbe586019356cd1737657398a0e8aa", func := "gist/gistkeep.Exact", spec := "exact", apart := false }
def ExactSaid : Prop := exactRow.holds Try.pinned (OpenSpec.ofChange exactSpec)

/-- ITS FALSE NEIGHBOUR: 'it returns false'. Refute it at one input. -/
def exactWrong : ChangeSpec := { name := "exact", fn := fun _ => fun
  | [d1, d2] => { results := [.lit (.bool false)], args := [d1, d2] }
  | _ => none }
def ExactWrongFalsely : Prop := exactRow.holds Try.pinned (OpenSpec.ofChange exactWrong)

/-- 'gistkeep.Honest': WHATEVER THE INPUT: true; the input reads as it did. -/
def honestSpec : ChangeSpec := { name := "honest", fn := fun _ => fun
  | [d1, d2, d3] => { results := [.lit (.bool true)], args := [d1, d2, d3] }
  | _ => none }
def honestRow : OpenClaim := { program := "ytgpojbgjfibblaa", sum := "3d0cdc062e0d1ca312ecc255a522fb81edfbe586019356cd1737657398a0e8aa", func := "gist/gistkeep.Honest", spec := "honest", apart := false }
def HonestSaid : Prop := honestRow.holds Try.pinned (OpenSpec.ofChange honestSpec)

/-- ITS FALSE NEIGHBOUR: 'it returns false'. Refute it at one input. -/
def honestWrong : ChangeSpec := { name := "honest", fn := fun _ => fun
  | [d1, d2, d3] => { results := [.lit (.bool false)], args := [d1, d2, d3] }
  | _ => none }
def HonestWrongFalsely : Prop := honestRow.holds Try.pinned (OpenSpec.ofChange honestWrong)

/-- 'gistkeep.Heals': WHATEVER THE INPUT: true; the input reads as it did. -/
def healsSpec : ChangeSpec := { name := "heals", fn := fun _ => fun
  | [d1, d2, d3, d4] => { results := [.lit (.bool true)], args := [d1, d2, d3, d4] }
  | _ => none }
def healsRow : OpenClaim := { program := "ytgpojbgjfibblaa", sum := "3d0cdc062e0d1ca312ecc255a522fb81edfbe586019356cd1737657398a0e8aa", func := "gist/gistkeep.Heals", spec := "heals", apart := false }
def HealsSaid : Prop := healsRow.holds Try.pinned (OpenSpec.ofChange healsSpec)

/-- ITS FALSE NEIGHBOUR: 'it returns false'. Refute it at one input. -/
def healsWrong : ChangeSpec := { name := "heals", fn := fun _ => fun
  | [d1, d2, d3, d4] => { results := [.lit (.bool false)], args := [d1, d2, d3, d4] }
  | _ => none }
def HealsWrongFalsely : Prop := healsRow.holds Try.pinned (OpenSpec.ofChange healsWrong)

/- THE SECOND FORM. 'bulk': how many values and letters a reading holds, each counted each time it is reached (what is shared counts as often as it is met; a slice's spare places count too). A statement '..UptoSaid' is the law's where the arguments, and the package variables that the reading takes, are together of bulk at most 1048576: NARROWER than '..Said'. Prove '..Said' where nothing that the law and all that it calls make is longer than what came in: it says more and counts as full. Else prove '..UptoSaid'. A law counts once. -/
mutual
def uptoBulk {H : Type} : DataW H → Nat
  | .lit (.string bytes) => bytes.length + 1
  | .lit _ => 1
  | .nil => 1
  | .ptr d => uptoBulk d + 1
  | .slice elems spare => uptoBulkAll elems + uptoBulkAll spare + 1
  | .agg parts => uptoBulkAll parts + 1
  | .iface _ d => uptoBulk d + 1
  | .map entries => uptoBulkEntries entries + 1
  | .held _ => 1
def uptoBulkAll {H : Type} : List (DataW H) → Nat
  | [] => 0
  | d :: r => uptoBulk d + uptoBulkAll r
def uptoBulkEntries {H : Type} : List (Lit × DataW H) → Nat
  | [] => 0
  | x :: r => uptoBulkEntry x + uptoBulkEntries r
def uptoBulkEntry {H : Type} : Lit × DataW H → Nat
  | (.string bytes, d) => bytes.length + uptoBulk d + 1
  | (_, d) => uptoBulk d + 1
 end
def uptoSmall : (H : Type) → List (DataW H) → Bool := fun _ ds => decide (uptoBulkAll ds ≤ 1048576)
def OpenSpec.upto (s : _root_.Go.ChangeSpec) : _root_.Go.OpenSpec := { _root_.Go.OpenSpec.ofChange s with cond := some uptoSmall }

/-- 'gistlaw.Crcs', WHERE WHAT IT READS IS OF BULK AT MOST 1048576: true; the input reads as it did. -/
def crcsUptoRow : OpenClaim := { program := "ytgpojbgjfibblaa", sum := "3d0cdc062e0d1ca312ecc255a522fb81edfbe586019356cd1737657398a0e8aa", func := "gist/gistlaw.Crcs", spec := "crcs", apart := false, narrowed := true }
def CrcsUptoSaid : Prop := crcsUptoRow.holds Try.pinned (OpenSpec.upto crcsSpec)

/-- 'gistlaw.Lows', WHERE WHAT IT READS IS OF BULK AT MOST 1048576: true; the input reads as it did. -/
def lowsUptoRow : OpenClaim := { program := "ytgpojbgjfibblaa", sum := "3d0cdc062e0d1ca312ecc255a522fb81edfbe586019356cd1737657398a0e8aa", func := "gist/gistlaw.Lows", spec := "lows", apart := false, narrowed := true }
def LowsUptoSaid : Prop := lowsUptoRow.holds Try.pinned (OpenSpec.upto lowsSpec)

/-- 'gistkeep.Tells', WHERE WHAT IT READS IS OF BULK AT MOST 1048576: true; the input reads as it did. -/
def tellsUptoRow : OpenClaim := { program := "ytgpojbgjfibblaa", sum := "3d0cdc062e0d1ca312ecc255a522fb81edfbe586019356cd1737657398a0e8aa", func := "gist/gistkeep.Tells", spec := "tells", apart := false, narrowed := true }
def TellsUptoSaid : Prop := tellsUptoRow.holds Try.pinned (OpenSpec.upto tellsSpec)

/-- 'gistlaw.Packets', WHERE WHAT IT READS IS OF BULK AT MOST 1048576: true; the input reads as it did. -/
def packetsUptoRow : OpenClaim := { program := "ytgpojbgjfibblaa", sum := "3d0cdc062e0d1ca312ecc255a522fb81edfbe586019356cd1737657398a0e8aa", func := "gist/gistlaw.Packets", spec := "packets", apart := false, narrowed := true }
def PacketsUptoSaid : Prop := packetsUptoRow.holds Try.pinned (OpenSpec.upto packetsSpec)

/-- 'gistkeep.Back', WHERE WHAT IT READS IS OF BULK AT MOST 1048576: true; the input reads as it did. -/
def backUptoRow : OpenClaim := { program := "ytgpojbgjfibblaa", sum := "3d0cdc062e0d1ca312ecc255a522fb81edfbe586019356cd1737657398a0e8aa", func := "gist/gistkeep.Back", spec := "back", apart := false, narrowed := true }
def BackUptoSaid : Prop := backUptoRow.holds Try.pinned (OpenSpec.upto backSpec)

/-- 'gistlaw.Lists', WHERE WHAT IT READS IS OF BULK AT MOST 1048576: true; the input reads as it did. -/
def listsUptoRow : OpenClaim := { program := "ytgpojbgjfibblaa", sum := "3d0cdc062e0d1ca312ecc255a522fb81edfbe586019356cd1737657398a0e8aa", func := "gist/gistlaw.Lists", spec := "lists", apart := false, narrowed := true }
def ListsUptoSaid : Prop := listsUptoRow.holds Try.pinned (OpenSpec.upto listsSpec)

/-- 'gistkeep.Again', WHERE WHAT IT READS IS OF BULK AT MOST 1048576: true; the input reads as it did. -/
def againUptoRow : OpenClaim := { program := "ytgpojbgjfibblaa", sum := "3d0cdc062e0d1ca312ecc255a522fb81edfbe586019356cd1737657398a0e8aa", func := "gist/gistkeep.Again", spec := "again", apart := false, narrowed := true }
def AgainUptoSaid : Prop := againUptoRow.holds Try.pinned (OpenSpec.upto againSpec)

/-- 'gistkeep.Exact', WHERE WHAT IT READS IS OF BULK AT MOST 1048576: true; the input reads as it did. -/
def exactUptoRow : OpenClaim := { program := "ytgpojbgjfibblaa", sum := "3d0cdc062e0d1ca312ecc255a522fb81edfbe586019356cd1737657398a0e8aa", func := "gist/gistkeep.Exact", spec := "exact", apart := false, narrowed := true }
def ExactUptoSaid : Prop := exactUptoRow.holds Try.pinned (OpenSpec.upto exactSpec)

/-- 'gistkeep.Honest', WHERE WHAT IT READS IS OF BULK AT MOST 1048576: true; the input reads as it did. -/
def honestUptoRow : OpenClaim := { program := "ytgpojbgjfibblaa", sum := "3d0cdc062e0d1ca312ecc255a522fb81edfbe586019356cd1737657398a0e8aa", func := "gist/gistkeep.Honest", spec := "honest", apart := false, narrowed := true }
def HonestUptoSaid : Prop := honestUptoRow.holds Try.pinned (OpenSpec.upto honestSpec)

/-- 'gistkeep.Heals', WHERE WHAT IT READS IS OF BULK AT MOST 1048576: true; the input reads as it did. -/
def healsUptoRow : OpenClaim := { program := "ytgpojbgjfibblaa", sum := "3d0cdc062e0d1ca312ecc255a522fb81edfbe586019356cd1737657398a0e8aa", func := "gist/gistkeep.Heals", spec := "heals", apart := false, narrowed := true }
def HealsUptoSaid : Prop := healsUptoRow.holds Try.pinned (OpenSpec.upto healsSpec)

end Rows
end Go.Proofs.Ytgpojbgjfibblaa
