/-
  DERIVED. GIVEN WITH THE SEED: THE CARDS: each row of YtnipbplghijdmaaGreatDoorRows.lean that lists a variable, with what it lists TIED to the program's text (the seventh form; the later family's looks); each row that meets fmt, with fmt's text TOLD by the authors' own Lean function (tested against real Go, not proved from fmt's source: count such statements apart). THE CARD IS WHAT COUNTS. Prove the row's statement (the work); the ties are given (YtnipbplghijdmaaGreatDoorTie.lean); close each card by the builder's one call (the guide's Derived/Test/ToyasCard.lean, 'card_holds'). Laid BY PROGRAM, IN A SANDBOX (cutbox-door.mjs). By AI agents, Wed Nov 11 2026. No macro, syntax, notation, axiom, sorry.
-/
import Derived.Test.YtnipbplghijdmaaGreatDoorRows
import GoSem.ClaimSeven
namespace Go.Proofs.YtnipbplghijdmaaGreatDoor
namespace Rows

/-- THE TIED CARD OF 'sedimentlaw.Writes'. -/
def writesCard : Claim7 := { stood := { row := writesRow, standIns := [], harness := (true, "15399cd00c8238a9481df38fa72d9b9c7e0af18660c807034bc31a9f2006f126"), looks := true }, kinds := [], alts := [], laidByText := true, laidKinds := [.data, .data, .data, .sentinel, .sentinel, .sentinel, .sentinel, .sentinel, .sentinel, .sentinel], laidTests := true, laidLooks := .later }
def WritesCardSaid : Prop := Claim7.holds Tryz.pinned (.plain (OpenSpec.ofChange writesSpec)) writesCard

/-- THE TIED CARD OF 'sedimentlaw.Settles'. -/
def settlesCard : Claim7 := { stood := { row := settlesRow, standIns := [], harness := (true, "15399cd00c8238a9481df38fa72d9b9c7e0af18660c807034bc31a9f2006f126"), looks := true }, kinds := [], alts := [], laidByText := true, laidKinds := [.data, .data, .data, .sentinel, .sentinel, .sentinel, .sentinel, .sentinel, .sentinel, .sentinel], laidTests := true, laidLooks := .later }
def SettlesCardSaid : Prop := Claim7.holds Tryz.pinned (.plain (OpenSpec.ofChange settlesSpec)) settlesCard

/-- THE TIED CARD OF 'sedimentlaw.Opens'. -/
def opensCard : Claim7 := { stood := { row := opensRow, standIns := [], harness := (true, "15399cd00c8238a9481df38fa72d9b9c7e0af18660c807034bc31a9f2006f126"), looks := true }, kinds := [], alts := [], laidByText := true, laidKinds := [.data, .data, .data, .sentinel, .sentinel, .sentinel, .sentinel, .sentinel, .sentinel, .sentinel], laidTests := true, laidLooks := .later }
def OpensCardSaid : Prop := Claim7.holds Tryz.pinned (.plain (OpenSpec.ofChange opensSpec)) opensCard

/-- THE TIED CARD OF 'sedimentkeep.Layers'. -/
def layersCard : Claim7 := { stood := { row := layersRow, standIns := [], harness := (true, "15399cd00c8238a9481df38fa72d9b9c7e0af18660c807034bc31a9f2006f126"), looks := true }, kinds := [], alts := [], laidByText := true, laidKinds := [.data, .data, .data, .sentinel, .sentinel, .sentinel, .sentinel, .sentinel, .sentinel, .sentinel], laidTests := true, laidLooks := .later }
def LayersCardSaid : Prop := Claim7.holds Tryz.pinned (.plain (OpenSpec.ofChange layersSpec)) layersCard

/-- THE TIED CARD OF 'sedimentkeep.Parts'. -/
def partsCard : Claim7 := { stood := { row := partsRow, standIns := [], harness := (true, "15399cd00c8238a9481df38fa72d9b9c7e0af18660c807034bc31a9f2006f126"), looks := true }, kinds := [], alts := [], laidByText := true, laidKinds := [.data, .data, .data, .sentinel, .sentinel, .sentinel, .sentinel, .sentinel, .sentinel, .sentinel], laidTests := true, laidLooks := .later }
def PartsCardSaid : Prop := Claim7.holds Tryz.pinned (.plain (OpenSpec.ofChange partsSpec)) partsCard

/-- THE TIED CARD OF 'sedimentkeep.Tells'. -/
def tellsCard : Claim7 := { stood := { row := tellsRow, standIns := [], harness := (true, "15399cd00c8238a9481df38fa72d9b9c7e0af18660c807034bc31a9f2006f126"), looks := true }, kinds := [], alts := [], laidByText := true, laidKinds := [.data, .data, .data, .sentinel, .sentinel, .sentinel, .sentinel, .sentinel, .sentinel, .sentinel], laidTests := true, laidLooks := .later }
def TellsCardSaid : Prop := Claim7.holds Tryz.pinned (.plain (OpenSpec.ofChange tellsSpec)) tellsCard

/-- THE TIED CARD OF 'sedimentkeep.Degraded'. -/
def degradedCard : Claim7 := { stood := { row := degradedRow, standIns := [], harness := (true, "15399cd00c8238a9481df38fa72d9b9c7e0af18660c807034bc31a9f2006f126"), looks := true }, kinds := [], alts := [], laidByText := true, laidKinds := [.data, .data, .data, .sentinel, .sentinel, .sentinel, .sentinel, .sentinel, .sentinel, .sentinel], laidTests := true, laidLooks := .later }
def DegradedCardSaid : Prop := Claim7.holds Tryz.pinned (.plain (OpenSpec.ofChange degradedSpec)) degradedCard

/-- THE TIED CARD OF 'sedimentlaw.Recovers'. -/
def recoversCard : Claim7 := { stood := { row := recoversRow, standIns := [], harness := (true, "15399cd00c8238a9481df38fa72d9b9c7e0af18660c807034bc31a9f2006f126"), looks := true }, kinds := [], alts := [], laidByText := true, laidKinds := [.data, .data, .data, .sentinel, .sentinel, .sentinel, .sentinel, .sentinel, .sentinel, .sentinel], laidTests := true, laidLooks := .later }
def RecoversCardSaid : Prop := Claim7.holds Tryz.pinned (.plain (OpenSpec.ofChange recoversSpec)) recoversCard

/-- THE TIED CARD OF 'sedimentkeep.Survives'. -/
def survivesCard : Claim7 := { stood := { row := survivesRow, standIns := [], harness := (true, "15399cd00c8238a9481df38fa72d9b9c7e0af18660c807034bc31a9f2006f126"), looks := true }, kinds := [], alts := [], laidByText := true, laidKinds := [.data, .data, .data, .sentinel, .sentinel, .sentinel, .sentinel, .sentinel, .sentinel, .sentinel], laidTests := true, laidLooks := .later }
def SurvivesCardSaid : Prop := Claim7.holds Tryz.pinned (.plain (OpenSpec.ofChange survivesSpec)) survivesCard

/-- THE TIED CARD OF 'sedimentkeep.Stays'. -/
def staysCard : Claim7 := { stood := { row := staysRow, standIns := [], harness := (true, "15399cd00c8238a9481df38fa72d9b9c7e0af18660c807034bc31a9f2006f126"), looks := true }, kinds := [], alts := [], laidByText := true, laidKinds := [.data, .data, .data, .sentinel, .sentinel, .sentinel, .sentinel, .sentinel, .sentinel, .sentinel], laidTests := true, laidLooks := .later }
def StaysCardSaid : Prop := Claim7.holds Tryz.pinned (.plain (OpenSpec.ofChange staysSpec)) staysCard

/-- THE TIED CARD OF 'sedimentlaw.All'. -/
def allCard : Claim7 := { stood := { row := allRow, standIns := [], harness := (true, "15399cd00c8238a9481df38fa72d9b9c7e0af18660c807034bc31a9f2006f126"), looks := true }, kinds := [], alts := [], laidByText := true, laidKinds := [.data, .data, .data, .sentinel, .sentinel, .sentinel, .sentinel, .sentinel, .sentinel, .sentinel], laidTests := true, laidLooks := .later }
def AllCardSaid : Prop := Claim7.holds Tryz.pinned (.plain (OpenSpec.ofChange allSpec)) allCard

/-- THE SECOND FORM's CARD OF 'sedimentlaw.Writes'. -/
def writesUptoCard : Claim7 := { stood := { row := writesUptoRow, standIns := [], harness := (true, "15399cd00c8238a9481df38fa72d9b9c7e0af18660c807034bc31a9f2006f126"), looks := true }, kinds := [], alts := [], laidByText := true, laidKinds := [.data, .data, .data, .sentinel, .sentinel, .sentinel, .sentinel, .sentinel, .sentinel, .sentinel], laidTests := true, laidLooks := .later }
def WritesUptoCardSaid : Prop := Claim7.holds Tryz.pinned (.plain (OpenSpec.upto writesSpec)) writesUptoCard

/-- THE SECOND FORM's CARD OF 'sedimentlaw.Settles'. -/
def settlesUptoCard : Claim7 := { stood := { row := settlesUptoRow, standIns := [], harness := (true, "15399cd00c8238a9481df38fa72d9b9c7e0af18660c807034bc31a9f2006f126"), looks := true }, kinds := [], alts := [], laidByText := true, laidKinds := [.data, .data, .data, .sentinel, .sentinel, .sentinel, .sentinel, .sentinel, .sentinel, .sentinel], laidTests := true, laidLooks := .later }
def SettlesUptoCardSaid : Prop := Claim7.holds Tryz.pinned (.plain (OpenSpec.upto settlesSpec)) settlesUptoCard

/-- THE SECOND FORM's CARD OF 'sedimentlaw.Opens'. -/
def opensUptoCard : Claim7 := { stood := { row := opensUptoRow, standIns := [], harness := (true, "15399cd00c8238a9481df38fa72d9b9c7e0af18660c807034bc31a9f2006f126"), looks := true }, kinds := [], alts := [], laidByText := true, laidKinds := [.data, .data, .data, .sentinel, .sentinel, .sentinel, .sentinel, .sentinel, .sentinel, .sentinel], laidTests := true, laidLooks := .later }
def OpensUptoCardSaid : Prop := Claim7.holds Tryz.pinned (.plain (OpenSpec.upto opensSpec)) opensUptoCard

/-- THE SECOND FORM's CARD OF 'sedimentkeep.Layers'. -/
def layersUptoCard : Claim7 := { stood := { row := layersUptoRow, standIns := [], harness := (true, "15399cd00c8238a9481df38fa72d9b9c7e0af18660c807034bc31a9f2006f126"), looks := true }, kinds := [], alts := [], laidByText := true, laidKinds := [.data, .data, .data, .sentinel, .sentinel, .sentinel, .sentinel, .sentinel, .sentinel, .sentinel], laidTests := true, laidLooks := .later }
def LayersUptoCardSaid : Prop := Claim7.holds Tryz.pinned (.plain (OpenSpec.upto layersSpec)) layersUptoCard

/-- THE SECOND FORM's CARD OF 'sedimentkeep.Parts'. -/
def partsUptoCard : Claim7 := { stood := { row := partsUptoRow, standIns := [], harness := (true, "15399cd00c8238a9481df38fa72d9b9c7e0af18660c807034bc31a9f2006f126"), looks := true }, kinds := [], alts := [], laidByText := true, laidKinds := [.data, .data, .data, .sentinel, .sentinel, .sentinel, .sentinel, .sentinel, .sentinel, .sentinel], laidTests := true, laidLooks := .later }
def PartsUptoCardSaid : Prop := Claim7.holds Tryz.pinned (.plain (OpenSpec.upto partsSpec)) partsUptoCard

/-- THE SECOND FORM's CARD OF 'sedimentkeep.Tells'. -/
def tellsUptoCard : Claim7 := { stood := { row := tellsUptoRow, standIns := [], harness := (true, "15399cd00c8238a9481df38fa72d9b9c7e0af18660c807034bc31a9f2006f126"), looks := true }, kinds := [], alts := [], laidByText := true, laidKinds := [.data, .data, .data, .sentinel, .sentinel, .sentinel, .sentinel, .sentinel, .sentinel, .sentinel], laidTests := true, laidLooks := .later }
def TellsUptoCardSaid : Prop := Claim7.holds Tryz.pinned (.plain (OpenSpec.upto tellsSpec)) tellsUptoCard

/-- THE SECOND FORM's CARD OF 'sedimentkeep.Degraded'. -/
def degradedUptoCard : Claim7 := { stood := { row := degradedUptoRow, standIns := [], harness := (true, "15399cd00c8238a9481df38fa72d9b9c7e0af18660c807034bc31a9f2006f126"), looks := true }, kinds := [], alts := [], laidByText := true, laidKinds := [.data, .data, .data, .sentinel, .sentinel, .sentinel, .sentinel, .sentinel, .sentinel, .sentinel], laidTests := true, laidLooks := .later }
def DegradedUptoCardSaid : Prop := Claim7.holds Tryz.pinned (.plain (OpenSpec.upto degradedSpec)) degradedUptoCard

/-- THE SECOND FORM's CARD OF 'sedimentlaw.Recovers'. -/
def recoversUptoCard : Claim7 := { stood := { row := recoversUptoRow, standIns := [], harness := (true, "15399cd00c8238a9481df38fa72d9b9c7e0af18660c807034bc31a9f2006f126"), looks := true }, kinds := [], alts := [], laidByText := true, laidKinds := [.data, .data, .data, .sentinel, .sentinel, .sentinel, .sentinel, .sentinel, .sentinel, .sentinel], laidTests := true, laidLooks := .later }
def RecoversUptoCardSaid : Prop := Claim7.holds Tryz.pinned (.plain (OpenSpec.upto recoversSpec)) recoversUptoCard

/-- THE SECOND FORM's CARD OF 'sedimentkeep.Survives'. -/
def survivesUptoCard : Claim7 := { stood := { row := survivesUptoRow, standIns := [], harness := (true, "15399cd00c8238a9481df38fa72d9b9c7e0af18660c807034bc31a9f2006f126"), looks := true }, kinds := [], alts := [], laidByText := true, laidKinds := [.data, .data, .data, .sentinel, .sentinel, .sentinel, .sentinel, .sentinel, .sentinel, .sentinel], laidTests := true, laidLooks := .later }
def SurvivesUptoCardSaid : Prop := Claim7.holds Tryz.pinned (.plain (OpenSpec.upto survivesSpec)) survivesUptoCard

/-- THE SECOND FORM's CARD OF 'sedimentkeep.Stays'. -/
def staysUptoCard : Claim7 := { stood := { row := staysUptoRow, standIns := [], harness := (true, "15399cd00c8238a9481df38fa72d9b9c7e0af18660c807034bc31a9f2006f126"), looks := true }, kinds := [], alts := [], laidByText := true, laidKinds := [.data, .data, .data, .sentinel, .sentinel, .sentinel, .sentinel, .sentinel, .sentinel, .sentinel], laidTests := true, laidLooks := .later }
def StaysUptoCardSaid : Prop := Claim7.holds Tryz.pinned (.plain (OpenSpec.upto staysSpec)) staysUptoCard

/-- THE SECOND FORM's CARD OF 'sedimentlaw.All'. -/
def allUptoCard : Claim7 := { stood := { row := allUptoRow, standIns := [], harness := (true, "15399cd00c8238a9481df38fa72d9b9c7e0af18660c807034bc31a9f2006f126"), looks := true }, kinds := [], alts := [], laidByText := true, laidKinds := [.data, .data, .data, .sentinel, .sentinel, .sentinel, .sentinel, .sentinel, .sentinel, .sentinel], laidTests := true, laidLooks := .later }
def AllUptoCardSaid : Prop := Claim7.holds Tryz.pinned (.plain (OpenSpec.upto allSpec)) allUptoCard
end Rows
end Go.Proofs.YtnipbplghijdmaaGreatDoor
