/-
  DERIVED. GIVEN WITH THE SEED: THE CARDS: each row of YtdaocdiabffpkaaGreatDoorRows.lean that lists a variable, with what it lists TIED to the program's text (the seventh form; the later family's looks); each row that meets fmt, with fmt's text TOLD by the authors' own Lean function (tested against real Go, not proved from fmt's source: count such statements apart). THE CARD IS WHAT COUNTS. Prove the row's statement (the work); the ties are given (YtdaocdiabffpkaaGreatDoorTie.lean); close each card by the builder's one call (the guide's Derived/Test/ToyasCard.lean, 'card_holds'). Laid BY PROGRAM, IN A SANDBOX (cutbox-door.mjs). By AI agents, Wed Nov 11 2026. No macro, syntax, notation, axiom, sorry.
-/
import Derived.Test.YtdaocdiabffpkaaGreatDoorRows
import GoSem.ClaimSeven
namespace Go.Proofs.YtdaocdiabffpkaaGreatDoor
namespace Rows

/-- THE TIED CARD OF 'sedimentlaw.Recovers'. -/
def recoversCard : Claim7 := { stood := { row := recoversRow, standIns := [], harness := (true, "758f6b25720dff655bda1d7658deaab1f86f852d807e0cd2f23b93ea0ba02189"), looks := true }, kinds := [], alts := [], laidByText := true, laidKinds := [.data, .data, .data, .sentinel, .sentinel, .sentinel, .sentinel, .sentinel, .sentinel, .sentinel], laidTests := true, laidLooks := .later }
def RecoversCardSaid : Prop := Claim7.holds Tryz.pinned (.plain (OpenSpec.ofChange recoversSpec)) recoversCard

/-- THE SECOND FORM's CARD OF 'sedimentlaw.Recovers'. -/
def recoversUptoCard : Claim7 := { stood := { row := recoversUptoRow, standIns := [], harness := (true, "758f6b25720dff655bda1d7658deaab1f86f852d807e0cd2f23b93ea0ba02189"), looks := true }, kinds := [], alts := [], laidByText := true, laidKinds := [.data, .data, .data, .sentinel, .sentinel, .sentinel, .sentinel, .sentinel, .sentinel, .sentinel], laidTests := true, laidLooks := .later }
def RecoversUptoCardSaid : Prop := Claim7.holds Tryz.pinned (.plain (OpenSpec.upto recoversSpec)) recoversUptoCard
end Rows
end Go.Proofs.YtdaocdiabffpkaaGreatDoor
