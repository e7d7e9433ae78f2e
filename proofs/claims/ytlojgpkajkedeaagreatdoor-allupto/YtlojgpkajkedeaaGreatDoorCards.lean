/-
  DERIVED. GIVEN WITH THE SEED: THE CARDS: each row of YtlojgpkajkedeaaGreatDoorRows.lean that lists a variable, with what it lists TIED to the program's text (the seventh form; the later family's looks); each row that meets fmt, with fmt's text TOLD by the authors' own Lean function (tested against real Go, not proved from fmt's source: count such statements apart). THE CARD IS WHAT COUNTS. Prove the row's statement (the work); the ties are given (YtlojgpkajkedeaaGreatDoorTie.lean); close each card by the builder's one call (the guide's Derived/Test/ToyasCard.lean, 'card_holds'). Laid BY PROGRAM, IN A SANDBOX (cutbox-door.mjs). By AI agents, Wed Nov 11 2026. No macro, syntax, notation, axiom, sorry.
-/
import Derived.Test.YtlojgpkajkedeaaGreatDoorRows
import GoSem.ClaimSeven
namespace Go.Proofs.YtlojgpkajkedeaaGreatDoor
namespace Rows

/-- THE TIED CARD OF 'rubriclaw.Blocks'. -/
def blocksCard : Claim7 := { stood := { row := blocksRow, standIns := [], harness := (true, "53eb5362d94b854672a4f90a5a868977778d73f52acd09b4e3333cb8e3c2eab2"), looks := true }, kinds := [], alts := [], laidByText := true, laidKinds := [.data, .data, .data, .data, .sentinel, .sentinel, .pinned], laidTests := true, laidLooks := .later }
def BlocksCardSaid : Prop := Claim7.holds Tryz.pinned (.plain (OpenSpec.ofChange blocksSpec)) blocksCard

/-- THE TIED CARD OF 'rubrickeep.Fenced'. -/
def fencedCard : Claim7 := { stood := { row := fencedRow, standIns := [], harness := (true, "53eb5362d94b854672a4f90a5a868977778d73f52acd09b4e3333cb8e3c2eab2"), looks := true }, kinds := [], alts := [], laidByText := true, laidKinds := [.data, .data, .data, .data, .sentinel, .sentinel, .pinned], laidTests := true, laidLooks := .later }
def FencedCardSaid : Prop := Claim7.holds Tryz.pinned (.plain (OpenSpec.ofChange fencedSpec)) fencedCard

/-- THE TIED CARD OF 'rubriclaw.Trees'. -/
def treesCard : Claim7 := { stood := { row := treesRow, standIns := [], harness := (true, "53eb5362d94b854672a4f90a5a868977778d73f52acd09b4e3333cb8e3c2eab2"), looks := true }, kinds := [], alts := [], laidByText := true, laidKinds := [.data, .data, .data, .data, .sentinel, .sentinel, .pinned], laidTests := true, laidLooks := .later }
def TreesCardSaid : Prop := Claim7.holds Tryz.pinned (.plain (OpenSpec.ofChange treesSpec)) treesCard

/-- THE TIED CARD OF 'rubrickeep.Quoted'. -/
def quotedCard : Claim7 := { stood := { row := quotedRow, standIns := [], harness := (true, "53eb5362d94b854672a4f90a5a868977778d73f52acd09b4e3333cb8e3c2eab2"), looks := true }, kinds := [], alts := [], laidByText := true, laidKinds := [.data, .data, .data, .data, .sentinel, .sentinel, .pinned], laidTests := true, laidLooks := .later }
def QuotedCardSaid : Prop := Claim7.holds Tryz.pinned (.plain (OpenSpec.ofChange quotedSpec)) quotedCard

/-- THE TIED CARD OF 'rubrickeep.Listed'. -/
def listedCard : Claim7 := { stood := { row := listedRow, standIns := [], harness := (true, "53eb5362d94b854672a4f90a5a868977778d73f52acd09b4e3333cb8e3c2eab2"), looks := true }, kinds := [], alts := [], laidByText := true, laidKinds := [.data, .data, .data, .data, .sentinel, .sentinel, .pinned], laidTests := true, laidLooks := .later }
def ListedCardSaid : Prop := Claim7.holds Tryz.pinned (.plain (OpenSpec.ofChange listedSpec)) listedCard

/-- THE TIED CARD OF 'rubrickeep.Escaped'. -/
def escapedCard : Claim7 := { stood := { row := escapedRow, standIns := [], harness := (true, "53eb5362d94b854672a4f90a5a868977778d73f52acd09b4e3333cb8e3c2eab2"), looks := true }, kinds := [], alts := [], laidByText := true, laidKinds := [.data, .data, .data, .data, .sentinel, .sentinel, .pinned], laidTests := true, laidLooks := .later }
def EscapedCardSaid : Prop := Claim7.holds Tryz.pinned (.plain (OpenSpec.ofChange escapedSpec)) escapedCard

/-- THE TIED CARD OF 'rubrickeep.Nested'. -/
def nestedCard : Claim7 := { stood := { row := nestedRow, standIns := [], harness := (true, "53eb5362d94b854672a4f90a5a868977778d73f52acd09b4e3333cb8e3c2eab2"), looks := true }, kinds := [], alts := [], laidByText := true, laidKinds := [.data, .data, .data, .data, .sentinel, .sentinel, .pinned], laidTests := true, laidLooks := .later }
def NestedCardSaid : Prop := Claim7.holds Tryz.pinned (.plain (OpenSpec.ofChange nestedSpec)) nestedCard

/-- THE TIED CARD OF 'rubriclaw.Pages'. -/
def pagesCard : Claim7 := { stood := { row := pagesRow, standIns := [], harness := (true, "53eb5362d94b854672a4f90a5a868977778d73f52acd09b4e3333cb8e3c2eab2"), looks := true }, kinds := [], alts := [], laidByText := true, laidKinds := [.data, .data, .data, .data, .sentinel, .sentinel, .pinned], laidTests := true, laidLooks := .later }
def PagesCardSaid : Prop := Claim7.holds Tryz.pinned (.plain (OpenSpec.ofChange pagesSpec)) pagesCard

/-- THE TIED CARD OF 'rubrickeep.Written'. -/
def writtenCard : Claim7 := { stood := { row := writtenRow, standIns := [], harness := (true, "53eb5362d94b854672a4f90a5a868977778d73f52acd09b4e3333cb8e3c2eab2"), looks := true }, kinds := [], alts := [], laidByText := true, laidKinds := [.data, .data, .data, .data, .sentinel, .sentinel, .pinned], laidTests := true, laidLooks := .later }
def WrittenCardSaid : Prop := Claim7.holds Tryz.pinned (.plain (OpenSpec.ofChange writtenSpec)) writtenCard

/-- THE TIED CARD OF 'rubriclaw.All'. -/
def allCard : Claim7 := { stood := { row := allRow, standIns := [], harness := (true, "53eb5362d94b854672a4f90a5a868977778d73f52acd09b4e3333cb8e3c2eab2"), looks := true }, kinds := [], alts := [], laidByText := true, laidKinds := [.data, .data, .data, .data, .sentinel, .sentinel, .pinned], laidTests := true, laidLooks := .later }
def AllCardSaid : Prop := Claim7.holds Tryz.pinned (.plain (OpenSpec.ofChange allSpec)) allCard

/-- THE TIED CARD OF 'rubrickeep.Edited'. -/
def editedCard : Claim7 := { stood := { row := editedRow, standIns := [], harness := (true, "53eb5362d94b854672a4f90a5a868977778d73f52acd09b4e3333cb8e3c2eab2"), looks := true }, kinds := [], alts := [], laidByText := true, laidKinds := [.data, .data, .data, .data, .sentinel, .sentinel, .pinned], laidTests := true, laidLooks := .later }
def EditedCardSaid : Prop := Claim7.holds Tryz.pinned (.plain (OpenSpec.ofChange editedSpec)) editedCard

/-- THE SECOND FORM's CARD OF 'rubriclaw.Blocks'. -/
def blocksUptoCard : Claim7 := { stood := { row := blocksUptoRow, standIns := [], harness := (true, "53eb5362d94b854672a4f90a5a868977778d73f52acd09b4e3333cb8e3c2eab2"), looks := true }, kinds := [], alts := [], laidByText := true, laidKinds := [.data, .data, .data, .data, .sentinel, .sentinel, .pinned], laidTests := true, laidLooks := .later }
def BlocksUptoCardSaid : Prop := Claim7.holds Tryz.pinned (.plain (OpenSpec.upto blocksSpec)) blocksUptoCard

/-- THE SECOND FORM's CARD OF 'rubrickeep.Fenced'. -/
def fencedUptoCard : Claim7 := { stood := { row := fencedUptoRow, standIns := [], harness := (true, "53eb5362d94b854672a4f90a5a868977778d73f52acd09b4e3333cb8e3c2eab2"), looks := true }, kinds := [], alts := [], laidByText := true, laidKinds := [.data, .data, .data, .data, .sentinel, .sentinel, .pinned], laidTests := true, laidLooks := .later }
def FencedUptoCardSaid : Prop := Claim7.holds Tryz.pinned (.plain (OpenSpec.upto fencedSpec)) fencedUptoCard

/-- THE SECOND FORM's CARD OF 'rubriclaw.Trees'. -/
def treesUptoCard : Claim7 := { stood := { row := treesUptoRow, standIns := [], harness := (true, "53eb5362d94b854672a4f90a5a868977778d73f52acd09b4e3333cb8e3c2eab2"), looks := true }, kinds := [], alts := [], laidByText := true, laidKinds := [.data, .data, .data, .data, .sentinel, .sentinel, .pinned], laidTests := true, laidLooks := .later }
def TreesUptoCardSaid : Prop := Claim7.holds Tryz.pinned (.plain (OpenSpec.upto treesSpec)) treesUptoCard

/-- THE SECOND FORM's CARD OF 'rubrickeep.Quoted'. -/
def quotedUptoCard : Claim7 := { stood := { row := quotedUptoRow, standIns := [], harness := (true, "53eb5362d94b854672a4f90a5a868977778d73f52acd09b4e3333cb8e3c2eab2"), looks := true }, kinds := [], alts := [], laidByText := true, laidKinds := [.data, .data, .data, .data, .sentinel, .sentinel, .pinned], laidTests := true, laidLooks := .later }
def QuotedUptoCardSaid : Prop := Claim7.holds Tryz.pinned (.plain (OpenSpec.upto quotedSpec)) quotedUptoCard

/-- THE SECOND FORM's CARD OF 'rubrickeep.Listed'. -/
def listedUptoCard : Claim7 := { stood := { row := listedUptoRow, standIns := [], harness := (true, "53eb5362d94b854672a4f90a5a868977778d73f52acd09b4e3333cb8e3c2eab2"), looks := true }, kinds := [], alts := [], laidByText := true, laidKinds := [.data, .data, .data, .data, .sentinel, .sentinel, .pinned], laidTests := true, laidLooks := .later }
def ListedUptoCardSaid : Prop := Claim7.holds Tryz.pinned (.plain (OpenSpec.upto listedSpec)) listedUptoCard

/-- THE SECOND FORM's CARD OF 'rubrickeep.Escaped'. -/
def escapedUptoCard : Claim7 := { stood := { row := escapedUptoRow, standIns := [], harness := (true, "53eb5362d94b854672a4f90a5a868977778d73f52acd09b4e3333cb8e3c2eab2"), looks := true }, kinds := [], alts := [], laidByText := true, laidKinds := [.data, .data, .data, .data, .sentinel, .sentinel, .pinned], laidTests := true, laidLooks := .later }
def EscapedUptoCardSaid : Prop := Claim7.holds Tryz.pinned (.plain (OpenSpec.upto escapedSpec)) escapedUptoCard

/-- THE SECOND FORM's CARD OF 'rubrickeep.Nested'. -/
def nestedUptoCard : Claim7 := { stood := { row := nestedUptoRow, standIns := [], harness := (true, "53eb5362d94b854672a4f90a5a868977778d73f52acd09b4e3333cb8e3c2eab2"), looks := true }, kinds := [], alts := [], laidByText := true, laidKinds := [.data, .data, .data, .data, .sentinel, .sentinel, .pinned], laidTests := true, laidLooks := .later }
def NestedUptoCardSaid : Prop := Claim7.holds Tryz.pinned (.plain (OpenSpec.upto nestedSpec)) nestedUptoCard

/-- THE SECOND FORM's CARD OF 'rubriclaw.Pages'. -/
def pagesUptoCard : Claim7 := { stood := { row := pagesUptoRow, standIns := [], harness := (true, "53eb5362d94b854672a4f90a5a868977778d73f52acd09b4e3333cb8e3c2eab2"), looks := true }, kinds := [], alts := [], laidByText := true, laidKinds := [.data, .data, .data, .data, .sentinel, .sentinel, .pinned], laidTests := true, laidLooks := .later }
def PagesUptoCardSaid : Prop := Claim7.holds Tryz.pinned (.plain (OpenSpec.upto pagesSpec)) pagesUptoCard

/-- THE SECOND FORM's CARD OF 'rubrickeep.Written'. -/
def writtenUptoCard : Claim7 := { stood := { row := writtenUptoRow, standIns := [], harness := (true, "53eb5362d94b854672a4f90a5a868977778d73f52acd09b4e3333cb8e3c2eab2"), looks := true }, kinds := [], alts := [], laidByText := true, laidKinds := [.data, .data, .data, .data, .sentinel, .sentinel, .pinned], laidTests := true, laidLooks := .later }
def WrittenUptoCardSaid : Prop := Claim7.holds Tryz.pinned (.plain (OpenSpec.upto writtenSpec)) writtenUptoCard

/-- THE SECOND FORM's CARD OF 'rubriclaw.All'. -/
def allUptoCard : Claim7 := { stood := { row := allUptoRow, standIns := [], harness := (true, "53eb5362d94b854672a4f90a5a868977778d73f52acd09b4e3333cb8e3c2eab2"), looks := true }, kinds := [], alts := [], laidByText := true, laidKinds := [.data, .data, .data, .data, .sentinel, .sentinel, .pinned], laidTests := true, laidLooks := .later }
def AllUptoCardSaid : Prop := Claim7.holds Tryz.pinned (.plain (OpenSpec.upto allSpec)) allUptoCard

/-- THE SECOND FORM's CARD OF 'rubrickeep.Edited'. -/
def editedUptoCard : Claim7 := { stood := { row := editedUptoRow, standIns := [], harness := (true, "53eb5362d94b854672a4f90a5a868977778d73f52acd09b4e3333cb8e3c2eab2"), looks := true }, kinds := [], alts := [], laidByText := true, laidKinds := [.data, .data, .data, .data, .sentinel, .sentinel, .pinned], laidTests := true, laidLooks := .later }
def EditedUptoCardSaid : Prop := Claim7.holds Tryz.pinned (.plain (OpenSpec.upto editedSpec)) editedUptoCard
end Rows
end Go.Proofs.YtlojgpkajkedeaaGreatDoor
