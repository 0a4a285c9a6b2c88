/-
  DERIVED. GIVEN WITH THE SEED: THE CARDS: each row of YtgbipbcejjlpiaaGreatDoorRows.lean that lists a variable, with what it lists TIED to the program's text (the seventh form; the later family's looks); each row that meets fmt, with fmt's text TOLD by the authors' own Lean function (tested against real Go, not proved from fmt's source: count such statements apart). THE CARD IS WHAT COUNTS. Prove the row's statement (the work); the ties are given (YtgbipbcejjlpiaaGreatDoorTie.lean); close each card by the builder's one call (the guide's Derived/Test/ToyasCard.lean, 'card_holds'). Laid BY PROGRAM, IN A SANDBOX (cutbox-door.mjs). By AI agents, Wed Nov 11 2026. No macro, syntax, notation, axiom, sorry.
-/
import Derived.Test.YtgbipbcejjlpiaaGreatDoorRows
import GoSem.ClaimSeven
namespace Go.Proofs.YtgbipbcejjlpiaaGreatDoor
namespace Rows

/-- THE TIED CARD OF 'gambrellaw11.CodecParity'. -/
def codecParityCard : Claim7 := { stood := { row := codecParityRow, standIns := [], harness := (true, "f096d43487bef47d173f95ae0474bd882e1781106f7406fbc20b7a3fb1ed1f5d"), looks := false }, kinds := [], alts := [], laidByText := true, laidKinds := [.data], laidTests := true, laidLooks := .later }
def CodecParityCardSaid : Prop := Claim7.holds Tryz.pinned (.plain (OpenSpec.ofChange codecParitySpec)) codecParityCard

/-- THE TIED CARD OF 'gambrellaw11.CodecEncodes'. -/
def codecEncodesCard : Claim7 := { stood := { row := codecEncodesRow, standIns := [], harness := (true, "f096d43487bef47d173f95ae0474bd882e1781106f7406fbc20b7a3fb1ed1f5d"), looks := false }, kinds := [], alts := [], laidByText := true, laidKinds := [.data], laidTests := true, laidLooks := .later }
def CodecEncodesCardSaid : Prop := Claim7.holds Tryz.pinned (.plain (OpenSpec.ofChange codecEncodesSpec)) codecEncodesCard

/-- THE TIED CARD OF 'gambrellaw11.CodecVerifies'. -/
def codecVerifiesCard : Claim7 := { stood := { row := codecVerifiesRow, standIns := [], harness := (true, "f096d43487bef47d173f95ae0474bd882e1781106f7406fbc20b7a3fb1ed1f5d"), looks := false }, kinds := [], alts := [], laidByText := true, laidKinds := [.data], laidTests := true, laidLooks := .later }
def CodecVerifiesCardSaid : Prop := Claim7.holds Tryz.pinned (.plain (OpenSpec.ofChange codecVerifiesSpec)) codecVerifiesCard

/-- THE TIED CARD OF 'gambrellaw11.CodecLinear'. -/
def codecLinearCard : Claim7 := { stood := { row := codecLinearRow, standIns := [], harness := (true, "f096d43487bef47d173f95ae0474bd882e1781106f7406fbc20b7a3fb1ed1f5d"), looks := false }, kinds := [], alts := [], laidByText := true, laidKinds := [.data], laidTests := true, laidLooks := .later }
def CodecLinearCardSaid : Prop := Claim7.holds Tryz.pinned (.plain (OpenSpec.ofChange codecLinearSpec)) codecLinearCard

/-- THE TIED CARD OF 'gambrellaw11.CodecColumns'. -/
def codecColumnsCard : Claim7 := { stood := { row := codecColumnsRow, standIns := [], harness := (true, "f096d43487bef47d173f95ae0474bd882e1781106f7406fbc20b7a3fb1ed1f5d"), looks := false }, kinds := [], alts := [], laidByText := true, laidKinds := [.data], laidTests := true, laidLooks := .later }
def CodecColumnsCardSaid : Prop := Claim7.holds Tryz.pinned (.plain (OpenSpec.ofChange codecColumnsSpec)) codecColumnsCard

/-- THE TIED CARD OF 'gambrellaw11.CodecXor'. -/
def codecXorCard : Claim7 := { stood := { row := codecXorRow, standIns := [], harness := (true, "f096d43487bef47d173f95ae0474bd882e1781106f7406fbc20b7a3fb1ed1f5d"), looks := false }, kinds := [], alts := [], laidByText := true, laidKinds := [.data], laidTests := true, laidLooks := .later }
def CodecXorCardSaid : Prop := Claim7.holds Tryz.pinned (.plain (OpenSpec.ofChange codecXorSpec)) codecXorCard

/-- THE SECOND FORM's CARD OF 'gambrellaw11.CodecParity'. -/
def codecParityUptoCard : Claim7 := { stood := { row := codecParityUptoRow, standIns := [], harness := (true, "f096d43487bef47d173f95ae0474bd882e1781106f7406fbc20b7a3fb1ed1f5d"), looks := false }, kinds := [], alts := [], laidByText := true, laidKinds := [.data], laidTests := true, laidLooks := .later }
def CodecParityUptoCardSaid : Prop := Claim7.holds Tryz.pinned (.plain (OpenSpec.upto codecParitySpec)) codecParityUptoCard

/-- THE SECOND FORM's CARD OF 'gambrellaw11.CodecEncodes'. -/
def codecEncodesUptoCard : Claim7 := { stood := { row := codecEncodesUptoRow, standIns := [], harness := (true, "f096d43487bef47d173f95ae0474bd882e1781106f7406fbc20b7a3fb1ed1f5d"), looks := false }, kinds := [], alts := [], laidByText := true, laidKinds := [.data], laidTests := true, laidLooks := .later }
def CodecEncodesUptoCardSaid : Prop := Claim7.holds Tryz.pinned (.plain (OpenSpec.upto codecEncodesSpec)) codecEncodesUptoCard

/-- THE SECOND FORM's CARD OF 'gambrellaw11.CodecVerifies'. -/
def codecVerifiesUptoCard : Claim7 := { stood := { row := codecVerifiesUptoRow, standIns := [], harness := (true, "f096d43487bef47d173f95ae0474bd882e1781106f7406fbc20b7a3fb1ed1f5d"), looks := false }, kinds := [], alts := [], laidByText := true, laidKinds := [.data], laidTests := true, laidLooks := .later }
def CodecVerifiesUptoCardSaid : Prop := Claim7.holds Tryz.pinned (.plain (OpenSpec.upto codecVerifiesSpec)) codecVerifiesUptoCard

/-- THE SECOND FORM's CARD OF 'gambrellaw11.CodecLinear'. -/
def codecLinearUptoCard : Claim7 := { stood := { row := codecLinearUptoRow, standIns := [], harness := (true, "f096d43487bef47d173f95ae0474bd882e1781106f7406fbc20b7a3fb1ed1f5d"), looks := false }, kinds := [], alts := [], laidByText := true, laidKinds := [.data], laidTests := true, laidLooks := .later }
def CodecLinearUptoCardSaid : Prop := Claim7.holds Tryz.pinned (.plain (OpenSpec.upto codecLinearSpec)) codecLinearUptoCard

/-- THE SECOND FORM's CARD OF 'gambrellaw11.CodecColumns'. -/
def codecColumnsUptoCard : Claim7 := { stood := { row := codecColumnsUptoRow, standIns := [], harness := (true, "f096d43487bef47d173f95ae0474bd882e1781106f7406fbc20b7a3fb1ed1f5d"), looks := false }, kinds := [], alts := [], laidByText := true, laidKinds := [.data], laidTests := true, laidLooks := .later }
def CodecColumnsUptoCardSaid : Prop := Claim7.holds Tryz.pinned (.plain (OpenSpec.upto codecColumnsSpec)) codecColumnsUptoCard

/-- THE SECOND FORM's CARD OF 'gambrellaw11.CodecXor'. -/
def codecXorUptoCard : Claim7 := { stood := { row := codecXorUptoRow, standIns := [], harness := (true, "f096d43487bef47d173f95ae0474bd882e1781106f7406fbc20b7a3fb1ed1f5d"), looks := false }, kinds := [], alts := [], laidByText := true, laidKinds := [.data], laidTests := true, laidLooks := .later }
def CodecXorUptoCardSaid : Prop := Claim7.holds Tryz.pinned (.plain (OpenSpec.upto codecXorSpec)) codecXorUptoCard
end Rows
end Go.Proofs.YtgbipbcejjlpiaaGreatDoor
