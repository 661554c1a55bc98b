/-
  The book of lists (package gistlaw): the walk of looks.
  Conditions stand in each theorem.
-/
import Derived.Test.YtgpojbgjfibblabPart10
namespace Go.Proofs.Ytgpojbgjfibblab.texts
open Go.RowKit
set_option linter.unusedVariables false
attribute [local go_sem] bs_size bs_append List.length_append bs_list bs_toList bs_extract

end Go.Proofs.Ytgpojbgjfibblab.texts
