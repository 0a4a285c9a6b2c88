/-
  DERIVED. GIVEN WITH THE SEED: THE CARDS: each row of YtgdgimknnjbieaaGreatDoorRows.lean that lists a variable, with what it lists TIED to the program's text (the seventh form; the later family's looks); each row that meets fmt, with fmt's text TOLD by the authors' own Lean function (tested against real Go, not proved from fmt's source: count such statements apart). THE CARD IS WHAT COUNTS. Prove the row's statement (the work); the ties are given (YtgdgimknnjbieaaGreatDoorTie.lean); close each card by the builder's one call (the guide's Derived/Test/ToyasCard.lean, 'card_holds'). Laid BY PROGRAM, IN A SANDBOX (cutbox-door.mjs). By AI agents, Wed Nov 11 2026. No macro, syntax, notation, axiom, sorry.
-/
import Derived.Test.YtgdgimknnjbieaaGreatDoorRows
import GoSem.ClaimSeven
namespace Go.Proofs.YtgdgimknnjbieaaGreatDoor
namespace Rows

/-- THE TIED CARD OF 'gambrellaw12.ReconTells'. -/
def reconTellsCard : Claim7 := { stood := { row := reconTellsRow, standIns := [], harness := (true, "d3de2b91d03e7ad20f1e8f4fc2e62f3a3cec16be2bd4902caf0a94d1fea4dc27"), looks := false }, kinds := [], alts := [], laidByText := true, laidKinds := [.data], laidTests := true, laidLooks := .later }
def ReconTellsCardSaid : Prop := Claim7.holds Tryz.pinned (.plain (OpenSpec.ofChange reconTellsSpec)) reconTellsCard

/-- THE TIED CARD OF 'gambrellaw12.ReconUpdates'. -/
def reconUpdatesCard : Claim7 := { stood := { row := reconUpdatesRow, standIns := [], harness := (true, "d3de2b91d03e7ad20f1e8f4fc2e62f3a3cec16be2bd4902caf0a94d1fea4dc27"), looks := false }, kinds := [], alts := [], laidByText := true, laidKinds := [.data], laidTests := true, laidLooks := .later }
def ReconUpdatesCardSaid : Prop := Claim7.holds Tryz.pinned (.plain (OpenSpec.ofChange reconUpdatesSpec)) reconUpdatesCard

/-- THE TIED CARD OF 'gambrellaw12.ReconAny'. -/
def reconAnyCard : Claim7 := { stood := { row := reconAnyRow, standIns := [], harness := (true, "d3de2b91d03e7ad20f1e8f4fc2e62f3a3cec16be2bd4902caf0a94d1fea4dc27"), looks := false }, kinds := [], alts := [], laidByText := true, laidKinds := [.data], laidTests := true, laidLooks := .later }
def ReconAnyCardSaid : Prop := Claim7.holds Tryz.pinned (.plain (OpenSpec.ofChange reconAnySpec)) reconAnyCard

/-- THE TIED CARD OF 'gambrellaw12.ReconFew'. -/
def reconFewCard : Claim7 := { stood := { row := reconFewRow, standIns := [], harness := (true, "d3de2b91d03e7ad20f1e8f4fc2e62f3a3cec16be2bd4902caf0a94d1fea4dc27"), looks := false }, kinds := [], alts := [], laidByText := true, laidKinds := [.data], laidTests := true, laidLooks := .later }
def ReconFewCardSaid : Prop := Claim7.holds Tryz.pinned (.plain (OpenSpec.ofChange reconFewSpec)) reconFewCard

/-- THE TIED CARD OF 'gambrellaw12.ReconChanges'. -/
def reconChangesCard : Claim7 := { stood := { row := reconChangesRow, standIns := [], harness := (true, "d3de2b91d03e7ad20f1e8f4fc2e62f3a3cec16be2bd4902caf0a94d1fea4dc27"), looks := false }, kinds := [], alts := [], laidByText := true, laidKinds := [.data], laidTests := true, laidLooks := .later }
def ReconChangesCardSaid : Prop := Claim7.holds Tryz.pinned (.plain (OpenSpec.ofChange reconChangesSpec)) reconChangesCard

/-- THE TIED CARD OF 'gambrellaw12.ReconWhich'. -/
def reconWhichCard : Claim7 := { stood := { row := reconWhichRow, standIns := [], harness := (true, "d3de2b91d03e7ad20f1e8f4fc2e62f3a3cec16be2bd4902caf0a94d1fea4dc27"), looks := false }, kinds := [], alts := [], laidByText := true, laidKinds := [.data], laidTests := true, laidLooks := .later }
def ReconWhichCardSaid : Prop := Claim7.holds Tryz.pinned (.plain (OpenSpec.ofChange reconWhichSpec)) reconWhichCard

/-- THE SECOND FORM's CARD OF 'gambrellaw12.ReconTells'. -/
def reconTellsUptoCard : Claim7 := { stood := { row := reconTellsUptoRow, standIns := [], harness := (true, "d3de2b91d03e7ad20f1e8f4fc2e62f3a3cec16be2bd4902caf0a94d1fea4dc27"), looks := false }, kinds := [], alts := [], laidByText := true, laidKinds := [.data], laidTests := true, laidLooks := .later }
def ReconTellsUptoCardSaid : Prop := Claim7.holds Tryz.pinned (.plain (OpenSpec.upto reconTellsSpec)) reconTellsUptoCard

/-- THE SECOND FORM's CARD OF 'gambrellaw12.ReconUpdates'. -/
def reconUpdatesUptoCard : Claim7 := { stood := { row := reconUpdatesUptoRow, standIns := [], harness := (true, "d3de2b91d03e7ad20f1e8f4fc2e62f3a3cec16be2bd4902caf0a94d1fea4dc27"), looks := false }, kinds := [], alts := [], laidByText := true, laidKinds := [.data], laidTests := true, laidLooks := .later }
def ReconUpdatesUptoCardSaid : Prop := Claim7.holds Tryz.pinned (.plain (OpenSpec.upto reconUpdatesSpec)) reconUpdatesUptoCard

/-- THE SECOND FORM's CARD OF 'gambrellaw12.ReconAny'. -/
def reconAnyUptoCard : Claim7 := { stood := { row := reconAnyUptoRow, standIns := [], harness := (true, "d3de2b91d03e7ad20f1e8f4fc2e62f3a3cec16be2bd4902caf0a94d1fea4dc27"), looks := false }, kinds := [], alts := [], laidByText := true, laidKinds := [.data], laidTests := true, laidLooks := .later }
def ReconAnyUptoCardSaid : Prop := Claim7.holds Tryz.pinned (.plain (OpenSpec.upto reconAnySpec)) reconAnyUptoCard

/-- THE SECOND FORM's CARD OF 'gambrellaw12.ReconFew'. -/
def reconFewUptoCard : Claim7 := { stood := { row := reconFewUptoRow, standIns := [], harness := (true, "d3de2b91d03e7ad20f1e8f4fc2e62f3a3cec16be2bd4902caf0a94d1fea4dc27"), looks := false }, kinds := [], alts := [], laidByText := true, laidKinds := [.data], laidTests := true, laidLooks := .later }
def ReconFewUptoCardSaid : Prop := Claim7.holds Tryz.pinned (.plain (OpenSpec.upto reconFewSpec)) reconFewUptoCard

/-- THE SECOND FORM's CARD OF 'gambrellaw12.ReconChanges'. -/
def reconChangesUptoCard : Claim7 := { stood := { row := reconChangesUptoRow, standIns := [], harness := (true, "d3de2b91d03e7ad20f1e8f4fc2e62f3a3cec16be2bd4902caf0a94d1fea4dc27"), looks := false }, kinds := [], alts := [], laidByText := true, laidKinds := [.data], laidTests := true, laidLooks := .later }
def ReconChangesUptoCardSaid : Prop := Claim7.holds Tryz.pinned (.plain (OpenSpec.upto reconChangesSpec)) reconChangesUptoCard

/-- THE SECOND FORM's CARD OF 'gambrellaw12.ReconWhich'. -/
def reconWhichUptoCard : Claim7 := { stood := { row := reconWhichUptoRow, standIns := [], harness := (true, "d3de2b91d03e7ad20f1e8f4fc2e62f3a3cec16be2bd4902caf0a94d1fea4dc27"), looks := false }, kinds := [], alts := [], laidByText := true, laidKinds := [.data], laidTests := true, laidLooks := .later }
def ReconWhichUptoCardSaid : Prop := Claim7.holds Tryz.pinned (.plain (OpenSpec.upto reconWhichSpec)) reconWhichUptoCard
end Rows
end Go.Proofs.YtgdgimknnjbieaaGreatDoor
