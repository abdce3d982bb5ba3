/-
  DERIVED. GIVEN WITH THE SEED: THE CARDS: each row of YtnmdcdphpcpojaaGreatDoorRows.lean that lists a variable, with what it lists TIED to the program's text (the seventh form; the later family's looks); each row that meets fmt, with fmt's text TOLD by the authors' own Lean function (tested against real Go, not proved from fmt's source: count such statements apart). THE CARD IS WHAT COUNTS. Prove the row's statement (the work); the ties are given (YtnmdcdphpcpojaaGreatDoorTie.lean); close each card by the builder's one call (the guide's Derived/Test/ToyasCard.lean, 'card_holds'). Laid BY PROGRAM, IN A SANDBOX (cutbox-door.mjs). By AI agents, Wed Nov 11 2026. No macro, syntax, notation, axiom, sorry.
-/
import Derived.Test.YtnmdcdphpcpojaaGreatDoorRows
import GoSem.ClaimSeven
namespace Go.Proofs.YtnmdcdphpcpojaaGreatDoor
namespace Rows

/-- THE TIED CARD OF 'osierlaw11.OutlineUnder'. -/
def outlineUnderCard : Claim7 := { stood := { row := outlineUnderRow, standIns := [], harness := (true, "050a50fca4db2f7d478a883811fc9fe7fe531e56bf3427f038d9f1d40096c005"), looks := false }, kinds := [], alts := [], laidByText := true, laidKinds := [.data, .pinned], laidTests := true, laidLooks := .later }
def OutlineUnderCardSaid : Prop := Claim7.holds Tryz.pinned (.plain (OpenSpec.ofChange outlineUnderSpec)) outlineUnderCard

/-- THE TIED CARD OF 'osierlaw11.OutlineShows'. -/
def outlineShowsCard : Claim7 := { stood := { row := outlineShowsRow, standIns := [], harness := (true, "050a50fca4db2f7d478a883811fc9fe7fe531e56bf3427f038d9f1d40096c005"), looks := false }, kinds := [], alts := [], laidByText := true, laidKinds := [.data, .pinned], laidTests := true, laidLooks := .later }
def OutlineShowsCardSaid : Prop := Claim7.holds Tryz.pinned (.plain (OpenSpec.ofChange outlineShowsSpec)) outlineShowsCard

/-- THE TIED CARD OF 'osierlaw11.OutlineReads'. -/
def outlineReadsCard : Claim7 := { stood := { row := outlineReadsRow, standIns := [], harness := (true, "050a50fca4db2f7d478a883811fc9fe7fe531e56bf3427f038d9f1d40096c005"), looks := false }, kinds := [], alts := [], laidByText := true, laidKinds := [.data, .pinned], laidTests := true, laidLooks := .later }
def OutlineReadsCardSaid : Prop := Claim7.holds Tryz.pinned (.plain (OpenSpec.ofChange outlineReadsSpec)) outlineReadsCard

/-- THE TIED CARD OF 'osierlaw11.OutlineBack'. -/
def outlineBackCard : Claim7 := { stood := { row := outlineBackRow, standIns := [], harness := (true, "050a50fca4db2f7d478a883811fc9fe7fe531e56bf3427f038d9f1d40096c005"), looks := false }, kinds := [], alts := [], laidByText := true, laidKinds := [.data, .pinned], laidTests := true, laidLooks := .later }
def OutlineBackCardSaid : Prop := Claim7.holds Tryz.pinned (.plain (OpenSpec.ofChange outlineBackSpec)) outlineBackCard

/-- THE TIED CARD OF 'osierlaw11.OutlineWhole'. -/
def outlineWholeCard : Claim7 := { stood := { row := outlineWholeRow, standIns := [], harness := (true, "050a50fca4db2f7d478a883811fc9fe7fe531e56bf3427f038d9f1d40096c005"), looks := false }, kinds := [], alts := [], laidByText := true, laidKinds := [.data, .pinned], laidTests := true, laidLooks := .later }
def OutlineWholeCardSaid : Prop := Claim7.holds Tryz.pinned (.plain (OpenSpec.ofChange outlineWholeSpec)) outlineWholeCard

/-- THE TIED CARD OF 'osierlaw11.OutlineTexts'. -/
def outlineTextsCard : Claim7 := { stood := { row := outlineTextsRow, standIns := [], harness := (true, "050a50fca4db2f7d478a883811fc9fe7fe531e56bf3427f038d9f1d40096c005"), looks := false }, kinds := [], alts := [], laidByText := true, laidKinds := [.data, .pinned], laidTests := true, laidLooks := .later }
def OutlineTextsCardSaid : Prop := Claim7.holds Tryz.pinned (.plain (OpenSpec.ofChange outlineTextsSpec)) outlineTextsCard

/-- THE SECOND FORM's CARD OF 'osierlaw11.OutlineUnder'. -/
def outlineUnderUptoCard : Claim7 := { stood := { row := outlineUnderUptoRow, standIns := [], harness := (true, "050a50fca4db2f7d478a883811fc9fe7fe531e56bf3427f038d9f1d40096c005"), looks := false }, kinds := [], alts := [], laidByText := true, laidKinds := [.data, .pinned], laidTests := true, laidLooks := .later }
def OutlineUnderUptoCardSaid : Prop := Claim7.holds Tryz.pinned (.plain (OpenSpec.upto outlineUnderSpec)) outlineUnderUptoCard

/-- THE SECOND FORM's CARD OF 'osierlaw11.OutlineShows'. -/
def outlineShowsUptoCard : Claim7 := { stood := { row := outlineShowsUptoRow, standIns := [], harness := (true, "050a50fca4db2f7d478a883811fc9fe7fe531e56bf3427f038d9f1d40096c005"), looks := false }, kinds := [], alts := [], laidByText := true, laidKinds := [.data, .pinned], laidTests := true, laidLooks := .later }
def OutlineShowsUptoCardSaid : Prop := Claim7.holds Tryz.pinned (.plain (OpenSpec.upto outlineShowsSpec)) outlineShowsUptoCard

/-- THE SECOND FORM's CARD OF 'osierlaw11.OutlineReads'. -/
def outlineReadsUptoCard : Claim7 := { stood := { row := outlineReadsUptoRow, standIns := [], harness := (true, "050a50fca4db2f7d478a883811fc9fe7fe531e56bf3427f038d9f1d40096c005"), looks := false }, kinds := [], alts := [], laidByText := true, laidKinds := [.data, .pinned], laidTests := true, laidLooks := .later }
def OutlineReadsUptoCardSaid : Prop := Claim7.holds Tryz.pinned (.plain (OpenSpec.upto outlineReadsSpec)) outlineReadsUptoCard

/-- THE SECOND FORM's CARD OF 'osierlaw11.OutlineBack'. -/
def outlineBackUptoCard : Claim7 := { stood := { row := outlineBackUptoRow, standIns := [], harness := (true, "050a50fca4db2f7d478a883811fc9fe7fe531e56bf3427f038d9f1d40096c005"), looks := false }, kinds := [], alts := [], laidByText := true, laidKinds := [.data, .pinned], laidTests := true, laidLooks := .later }
def OutlineBackUptoCardSaid : Prop := Claim7.holds Tryz.pinned (.plain (OpenSpec.upto outlineBackSpec)) outlineBackUptoCard

/-- THE SECOND FORM's CARD OF 'osierlaw11.OutlineWhole'. -/
def outlineWholeUptoCard : Claim7 := { stood := { row := outlineWholeUptoRow, standIns := [], harness := (true, "050a50fca4db2f7d478a883811fc9fe7fe531e56bf3427f038d9f1d40096c005"), looks := false }, kinds := [], alts := [], laidByText := true, laidKinds := [.data, .pinned], laidTests := true, laidLooks := .later }
def OutlineWholeUptoCardSaid : Prop := Claim7.holds Tryz.pinned (.plain (OpenSpec.upto outlineWholeSpec)) outlineWholeUptoCard

/-- THE SECOND FORM's CARD OF 'osierlaw11.OutlineTexts'. -/
def outlineTextsUptoCard : Claim7 := { stood := { row := outlineTextsUptoRow, standIns := [], harness := (true, "050a50fca4db2f7d478a883811fc9fe7fe531e56bf3427f038d9f1d40096c005"), looks := false }, kinds := [], alts := [], laidByText := true, laidKinds := [.data, .pinned], laidTests := true, laidLooks := .later }
def OutlineTextsUptoCardSaid : Prop := Claim7.holds Tryz.pinned (.plain (OpenSpec.upto outlineTextsSpec)) outlineTextsUptoCard
end Rows
end Go.Proofs.YtnmdcdphpcpojaaGreatDoor
