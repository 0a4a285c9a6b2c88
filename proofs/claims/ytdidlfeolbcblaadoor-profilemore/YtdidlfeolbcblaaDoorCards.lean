/-
  DERIVED. GIVEN WITH THE SEED: THE CARDS: each row of YtdidlfeolbcblaaDoorRows.lean that lists a variable, with what it lists TIED to the program's text (the seventh form; the later family's looks); each row that meets fmt, with fmt's text TOLD by the authors' own Lean function (tested against real Go, not proved from fmt's source: count such statements apart). THE CARD IS WHAT COUNTS. Prove the row's statement (the work); the ties are given (YtdidlfeolbcblaaDoorTie.lean); close each card by the builder's one call (the guide's Derived/Test/ToyasCard.lean, 'card_holds'). Laid BY PROGRAM, IN A SANDBOX (cutbox-door.mjs). By AI agents, Wed Nov 11 2026. No macro, syntax, notation, axiom, sorry.
-/
import Derived.Test.YtdidlfeolbcblaaDoorRows
import GoSem.ClaimSeven
namespace Go.Proofs.YtdidlfeolbcblaaDoor
namespace Rows

/-- THE TIED CARD OF 'gambrellaw09.ProfileMore'. -/
def profileMoreCard : Claim7 := { stood := { row := profileMoreRow, standIns := [], harness := (true, "896b4a42422298d6a7c9507e14264d64a4a5921ef20a3f8823dd5b3ce52b6917"), looks := false }, kinds := [], alts := [], laidByText := true, laidKinds := [.data], laidTests := true, laidLooks := .later }
def ProfileMoreCardSaid : Prop := Claim7.holds Tryd.pinned (.plain (OpenSpec.ofChange profileMoreSpec)) profileMoreCard

/-- THE TIED CARD OF 'gambrellaw09.ProfileTwins'. -/
def profileTwinsCard : Claim7 := { stood := { row := profileTwinsRow, standIns := [], harness := (true, "896b4a42422298d6a7c9507e14264d64a4a5921ef20a3f8823dd5b3ce52b6917"), looks := false }, kinds := [], alts := [], laidByText := true, laidKinds := [.data], laidTests := true, laidLooks := .later }
def ProfileTwinsCardSaid : Prop := Claim7.holds Tryd.pinned (.plain (OpenSpec.ofChange profileTwinsSpec)) profileTwinsCard

/-- THE SECOND FORM's CARD OF 'gambrellaw09.ProfileMore'. -/
def profileMoreUptoCard : Claim7 := { stood := { row := profileMoreUptoRow, standIns := [], harness := (true, "896b4a42422298d6a7c9507e14264d64a4a5921ef20a3f8823dd5b3ce52b6917"), looks := false }, kinds := [], alts := [], laidByText := true, laidKinds := [.data], laidTests := true, laidLooks := .later }
def ProfileMoreUptoCardSaid : Prop := Claim7.holds Tryd.pinned (.plain (OpenSpec.upto profileMoreSpec)) profileMoreUptoCard

/-- THE SECOND FORM's CARD OF 'gambrellaw09.ProfileTwins'. -/
def profileTwinsUptoCard : Claim7 := { stood := { row := profileTwinsUptoRow, standIns := [], harness := (true, "896b4a42422298d6a7c9507e14264d64a4a5921ef20a3f8823dd5b3ce52b6917"), looks := false }, kinds := [], alts := [], laidByText := true, laidKinds := [.data], laidTests := true, laidLooks := .later }
def ProfileTwinsUptoCardSaid : Prop := Claim7.holds Tryd.pinned (.plain (OpenSpec.upto profileTwinsSpec)) profileTwinsUptoCard
end Rows
end Go.Proofs.YtdidlfeolbcblaaDoor
