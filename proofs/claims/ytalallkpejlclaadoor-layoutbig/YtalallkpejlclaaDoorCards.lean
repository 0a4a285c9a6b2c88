/-
  DERIVED. GIVEN WITH THE SEED: THE CARDS: each row of YtalallkpejlclaaDoorRows.lean that lists a variable, with what it lists TIED to the program's text (the seventh form; the later family's looks); each row that meets fmt, with fmt's text TOLD by the authors' own Lean function (tested against real Go, not proved from fmt's source: count such statements apart). THE CARD IS WHAT COUNTS. Prove the row's statement (the work); the ties are given (YtalallkpejlclaaDoorTie.lean); close each card by the builder's one call (the guide's Derived/Test/ToyasCard.lean, 'card_holds'). Laid BY PROGRAM, IN A SANDBOX (cutbox-door.mjs). By AI agents, Wed Nov 11 2026. No macro, syntax, notation, axiom, sorry.
-/
import Derived.Test.YtalallkpejlclaaDoorRows
import GoSem.ClaimSeven
namespace Go.Proofs.YtalallkpejlclaaDoor
namespace Rows

/-- THE TIED CARD OF 'gambrellaw10.LayoutTells'. -/
def layoutTellsCard : Claim7 := { stood := { row := layoutTellsRow, standIns := [], harness := (true, "1c96b67398fe22f36c04e5d8ac09e33124134b562dd09a0250ee7aec7da70a4f"), looks := false }, kinds := [], alts := [], laidByText := true, laidKinds := [.data], laidTests := true, laidLooks := .later }
def LayoutTellsCardSaid : Prop := Claim7.holds Tryd.pinned (.plain (OpenSpec.ofChange layoutTellsSpec)) layoutTellsCard

/-- THE TIED CARD OF 'gambrellaw10.LayoutJoins'. -/
def layoutJoinsCard : Claim7 := { stood := { row := layoutJoinsRow, standIns := [], harness := (true, "1c96b67398fe22f36c04e5d8ac09e33124134b562dd09a0250ee7aec7da70a4f"), looks := false }, kinds := [], alts := [], laidByText := true, laidKinds := [.data], laidTests := true, laidLooks := .later }
def LayoutJoinsCardSaid : Prop := Claim7.holds Tryd.pinned (.plain (OpenSpec.ofChange layoutJoinsSpec)) layoutJoinsCard

/-- THE TIED CARD OF 'gambrellaw10.LayoutBack'. -/
def layoutBackCard : Claim7 := { stood := { row := layoutBackRow, standIns := [], harness := (true, "1c96b67398fe22f36c04e5d8ac09e33124134b562dd09a0250ee7aec7da70a4f"), looks := false }, kinds := [], alts := [], laidByText := true, laidKinds := [.data], laidTests := true, laidLooks := .later }
def LayoutBackCardSaid : Prop := Claim7.holds Tryd.pinned (.plain (OpenSpec.ofChange layoutBackSpec)) layoutBackCard

/-- THE TIED CARD OF 'gambrellaw10.LayoutSame'. -/
def layoutSameCard : Claim7 := { stood := { row := layoutSameRow, standIns := [], harness := (true, "1c96b67398fe22f36c04e5d8ac09e33124134b562dd09a0250ee7aec7da70a4f"), looks := false }, kinds := [], alts := [], laidByText := true, laidKinds := [.data], laidTests := true, laidLooks := .later }
def LayoutSameCardSaid : Prop := Claim7.holds Tryd.pinned (.plain (OpenSpec.ofChange layoutSameSpec)) layoutSameCard

/-- THE TIED CARD OF 'gambrellaw10.LayoutSize'. -/
def layoutSizeCard : Claim7 := { stood := { row := layoutSizeRow, standIns := [], harness := (true, "1c96b67398fe22f36c04e5d8ac09e33124134b562dd09a0250ee7aec7da70a4f"), looks := false }, kinds := [], alts := [], laidByText := true, laidKinds := [.data], laidTests := true, laidLooks := .later }
def LayoutSizeCardSaid : Prop := Claim7.holds Tryd.pinned (.plain (OpenSpec.ofChange layoutSizeSpec)) layoutSizeCard

/-- THE TIED CARD OF 'gambrellaw10.LayoutBig'. -/
def layoutBigCard : Claim7 := { stood := { row := layoutBigRow, standIns := [], harness := (true, "1c96b67398fe22f36c04e5d8ac09e33124134b562dd09a0250ee7aec7da70a4f"), looks := false }, kinds := [], alts := [], laidByText := true, laidKinds := [.data], laidTests := true, laidLooks := .later }
def LayoutBigCardSaid : Prop := Claim7.holds Tryd.pinned (.plain (OpenSpec.ofChange layoutBigSpec)) layoutBigCard

/-- THE SECOND FORM's CARD OF 'gambrellaw10.LayoutTells'. -/
def layoutTellsUptoCard : Claim7 := { stood := { row := layoutTellsUptoRow, standIns := [], harness := (true, "1c96b67398fe22f36c04e5d8ac09e33124134b562dd09a0250ee7aec7da70a4f"), looks := false }, kinds := [], alts := [], laidByText := true, laidKinds := [.data], laidTests := true, laidLooks := .later }
def LayoutTellsUptoCardSaid : Prop := Claim7.holds Tryd.pinned (.plain (OpenSpec.upto layoutTellsSpec)) layoutTellsUptoCard

/-- THE SECOND FORM's CARD OF 'gambrellaw10.LayoutJoins'. -/
def layoutJoinsUptoCard : Claim7 := { stood := { row := layoutJoinsUptoRow, standIns := [], harness := (true, "1c96b67398fe22f36c04e5d8ac09e33124134b562dd09a0250ee7aec7da70a4f"), looks := false }, kinds := [], alts := [], laidByText := true, laidKinds := [.data], laidTests := true, laidLooks := .later }
def LayoutJoinsUptoCardSaid : Prop := Claim7.holds Tryd.pinned (.plain (OpenSpec.upto layoutJoinsSpec)) layoutJoinsUptoCard

/-- THE SECOND FORM's CARD OF 'gambrellaw10.LayoutBack'. -/
def layoutBackUptoCard : Claim7 := { stood := { row := layoutBackUptoRow, standIns := [], harness := (true, "1c96b67398fe22f36c04e5d8ac09e33124134b562dd09a0250ee7aec7da70a4f"), looks := false }, kinds := [], alts := [], laidByText := true, laidKinds := [.data], laidTests := true, laidLooks := .later }
def LayoutBackUptoCardSaid : Prop := Claim7.holds Tryd.pinned (.plain (OpenSpec.upto layoutBackSpec)) layoutBackUptoCard

/-- THE SECOND FORM's CARD OF 'gambrellaw10.LayoutSame'. -/
def layoutSameUptoCard : Claim7 := { stood := { row := layoutSameUptoRow, standIns := [], harness := (true, "1c96b67398fe22f36c04e5d8ac09e33124134b562dd09a0250ee7aec7da70a4f"), looks := false }, kinds := [], alts := [], laidByText := true, laidKinds := [.data], laidTests := true, laidLooks := .later }
def LayoutSameUptoCardSaid : Prop := Claim7.holds Tryd.pinned (.plain (OpenSpec.upto layoutSameSpec)) layoutSameUptoCard

/-- THE SECOND FORM's CARD OF 'gambrellaw10.LayoutSize'. -/
def layoutSizeUptoCard : Claim7 := { stood := { row := layoutSizeUptoRow, standIns := [], harness := (true, "1c96b67398fe22f36c04e5d8ac09e33124134b562dd09a0250ee7aec7da70a4f"), looks := false }, kinds := [], alts := [], laidByText := true, laidKinds := [.data], laidTests := true, laidLooks := .later }
def LayoutSizeUptoCardSaid : Prop := Claim7.holds Tryd.pinned (.plain (OpenSpec.upto layoutSizeSpec)) layoutSizeUptoCard

/-- THE SECOND FORM's CARD OF 'gambrellaw10.LayoutBig'. -/
def layoutBigUptoCard : Claim7 := { stood := { row := layoutBigUptoRow, standIns := [], harness := (true, "1c96b67398fe22f36c04e5d8ac09e33124134b562dd09a0250ee7aec7da70a4f"), looks := false }, kinds := [], alts := [], laidByText := true, laidKinds := [.data], laidTests := true, laidLooks := .later }
def LayoutBigUptoCardSaid : Prop := Claim7.holds Tryd.pinned (.plain (OpenSpec.upto layoutBigSpec)) layoutBigUptoCard
end Rows
end Go.Proofs.YtalallkpejlclaaDoor
