/-
  D: LayA.
-/
import Derived.Deep.CutBlock
import Derived.Test.YtnipbplghijdmaaGreatDoorD34
set_option linter.unusedVariables false
set_option linter.unusedSimpArgs false
namespace Go.Proofs.YtnipbplghijdmaaGreatDoor
open RowKit Maps WideShapes
theorem jad{p:Option Addr}{n m c b g:Nat}(h:(Value.slice p n c).ownBlock=some g):(Value.slice p m b).ownBlock=some g:=by cases p<;>exact h
end Go.Proofs.YtnipbplghijdmaaGreatDoor
