/-
  DERIVED. GIVEN WITH THE SEED: THE CARDS: each row of YtdidlfeolbcblaaGreatDoorRows.lean that lists a variable, with what it lists TIED to the program's text (the seventh form; the later family's looks); each row that meets fmt, with fmt's text TOLD by the authors' own Lean function (tested against real Go, not proved from fmt's source: count such statements apart). THE CARD IS WHAT COUNTS. Prove the row's statement (the work); the ties are given (YtdidlfeolbcblaaGreatDoorTie.lean); close each card by the builder's one call (the guide's Derived/Test/ToyasCard.lean, 'card_holds'). Laid BY PROGRAM, IN A SANDBOX (cutbox-door.mjs). By AI agents, Wed Nov 11 2026. No macro, syntax, notation, axiom, sorry.
-/
import Derived.Test.YtdidlfeolbcblaaGreatDoorRows
import GoSem.ClaimSeven
namespace Go.Proofs.YtdidlfeolbcblaaGreatDoor
namespace Rows

/-- THE TIED CARD OF 'gambrellaw09.ProfileTells'. -/
def profileTellsCard : Claim7 := { stood := { row := profileTellsRow, standIns := [], harness := (true, "7f06bb05b1967a37d50ea4b93a3dadd4351ff03a685a335178c41aa3a5968e6e"), looks := false }, kinds := [], alts := [], laidByText := true, laidKinds := [.data], laidTests := true, laidLooks := .later }
def ProfileTellsCardSaid : Prop := Claim7.holds Tryz.pinned (.plain (OpenSpec.ofChange profileTellsSpec)) profileTellsCard

/-- THE TIED CARD OF 'gambrellaw09.ProfileAll'. -/
def profileAllCard : Claim7 := { stood := { row := profileAllRow, standIns := [], harness := (true, "7f06bb05b1967a37d50ea4b93a3dadd4351ff03a685a335178c41aa3a5968e6e"), looks := false }, kinds := [], alts := [], laidByText := true, laidKinds := [.data], laidTests := true, laidLooks := .later }
def ProfileAllCardSaid : Prop := Claim7.holds Tryz.pinned (.plain (OpenSpec.ofChange profileAllSpec)) profileAllCard

/-- THE TIED CARD OF 'gambrellaw09.ProfileSafe'. -/
def profileSafeCard : Claim7 := { stood := { row := profileSafeRow, standIns := [], harness := (true, "7f06bb05b1967a37d50ea4b93a3dadd4351ff03a685a335178c41aa3a5968e6e"), looks := false }, kinds := [], alts := [], laidByText := true, laidKinds := [.data], laidTests := true, laidLooks := .later }
def ProfileSafeCardSaid : Prop := Claim7.holds Tryz.pinned (.plain (OpenSpec.ofChange profileSafeSpec)) profileSafeCard

/-- THE TIED CARD OF 'gambrellaw09.ProfileAny'. -/
def profileAnyCard : Claim7 := { stood := { row := profileAnyRow, standIns := [], harness := (true, "7f06bb05b1967a37d50ea4b93a3dadd4351ff03a685a335178c41aa3a5968e6e"), looks := false }, kinds := [], alts := [], laidByText := true, laidKinds := [.data], laidTests := true, laidLooks := .later }
def ProfileAnyCardSaid : Prop := Claim7.holds Tryz.pinned (.plain (OpenSpec.ofChange profileAnySpec)) profileAnyCard

/-- THE SECOND FORM's CARD OF 'gambrellaw09.ProfileTells'. -/
def profileTellsUptoCard : Claim7 := { stood := { row := profileTellsUptoRow, standIns := [], harness := (true, "7f06bb05b1967a37d50ea4b93a3dadd4351ff03a685a335178c41aa3a5968e6e"), looks := false }, kinds := [], alts := [], laidByText := true, laidKinds := [.data], laidTests := true, laidLooks := .later }
def ProfileTellsUptoCardSaid : Prop := Claim7.holds Tryz.pinned (.plain (OpenSpec.upto profileTellsSpec)) profileTellsUptoCard

/-- THE SECOND FORM's CARD OF 'gambrellaw09.ProfileAll'. -/
def profileAllUptoCard : Claim7 := { stood := { row := profileAllUptoRow, standIns := [], harness := (true, "7f06bb05b1967a37d50ea4b93a3dadd4351ff03a685a335178c41aa3a5968e6e"), looks := false }, kinds := [], alts := [], laidByText := true, laidKinds := [.data], laidTests := true, laidLooks := .later }
def ProfileAllUptoCardSaid : Prop := Claim7.holds Tryz.pinned (.plain (OpenSpec.upto profileAllSpec)) profileAllUptoCard

/-- THE SECOND FORM's CARD OF 'gambrellaw09.ProfileSafe'. -/
def profileSafeUptoCard : Claim7 := { stood := { row := profileSafeUptoRow, standIns := [], harness := (true, "7f06bb05b1967a37d50ea4b93a3dadd4351ff03a685a335178c41aa3a5968e6e"), looks := false }, kinds := [], alts := [], laidByText := true, laidKinds := [.data], laidTests := true, laidLooks := .later }
def ProfileSafeUptoCardSaid : Prop := Claim7.holds Tryz.pinned (.plain (OpenSpec.upto profileSafeSpec)) profileSafeUptoCard

/-- THE SECOND FORM's CARD OF 'gambrellaw09.ProfileAny'. -/
def profileAnyUptoCard : Claim7 := { stood := { row := profileAnyUptoRow, standIns := [], harness := (true, "7f06bb05b1967a37d50ea4b93a3dadd4351ff03a685a335178c41aa3a5968e6e"), looks := false }, kinds := [], alts := [], laidByText := true, laidKinds := [.data], laidTests := true, laidLooks := .later }
def ProfileAnyUptoCardSaid : Prop := Claim7.holds Tryz.pinned (.plain (OpenSpec.upto profileAnySpec)) profileAnyUptoCard
end Rows
end Go.Proofs.YtdidlfeolbcblaaGreatDoor
