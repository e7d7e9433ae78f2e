/-
  DERIVED. GIVEN WITH THE SEED: THE CARDS: each row of YtpoaadfkalnjgaaGreatDoorRows.lean that lists a variable, with what it lists TIED to the program's text (the seventh form; the later family's looks); each row that meets fmt, with fmt's text TOLD by the authors' own Lean function (tested against real Go, not proved from fmt's source: count such statements apart). THE CARD IS WHAT COUNTS. Prove the row's statement (the work); the ties are given (YtpoaadfkalnjgaaGreatDoorTie.lean); close each card by the builder's one call (the guide's Derived/Test/ToyasCard.lean, 'card_holds'). Laid BY PROGRAM, IN A SANDBOX (cutbox-door.mjs). By AI agents, Wed Nov 11 2026. No macro, syntax, notation, axiom, sorry.
-/
import Derived.Test.YtpoaadfkalnjgaaGreatDoorRows
import GoSem.ClaimSeven
namespace Go.Proofs.YtpoaadfkalnjgaaGreatDoor
namespace Rows

/-- THE TIED CARD OF 'rubriclaw.Blocks'. -/
def blocksCard : Claim7 := { stood := { row := blocksRow, standIns := [], harness := (true, "8b8d31248b04c41efaabc854ad32e9845434f9871b1c0a49484c642e983cc106"), looks := true }, kinds := [], alts := [], laidByText := true, laidKinds := [.data, .data, .data, .data, .sentinel, .sentinel, .pinned], laidTests := true, laidLooks := .later }
def BlocksCardSaid : Prop := Claim7.holds Tryz.pinned (.plain (OpenSpec.ofChange blocksSpec)) blocksCard

/-- THE TIED CARD OF 'rubrickeep.Fenced'. -/
def fencedCard : Claim7 := { stood := { row := fencedRow, standIns := [], harness := (true, "8b8d31248b04c41efaabc854ad32e9845434f9871b1c0a49484c642e983cc106"), looks := true }, kinds := [], alts := [], laidByText := true, laidKinds := [.data, .data, .data, .data, .sentinel, .sentinel, .pinned], laidTests := true, laidLooks := .later }
def FencedCardSaid : Prop := Claim7.holds Tryz.pinned (.plain (OpenSpec.ofChange fencedSpec)) fencedCard

/-- THE TIED CARD OF 'rubriclaw.Trees'. -/
def treesCard : Claim7 := { stood := { row := treesRow, standIns := [], harness := (true, "8b8d31248b04c41efaabc854ad32e9845434f9871b1c0a49484c642e983cc106"), looks := true }, kinds := [], alts := [], laidByText := true, laidKinds := [.data, .data, .data, .data, .sentinel, .sentinel, .pinned], laidTests := true, laidLooks := .later }
def TreesCardSaid : Prop := Claim7.holds Tryz.pinned (.plain (OpenSpec.ofChange treesSpec)) treesCard

/-- THE TIED CARD OF 'rubrickeep.Quoted'. -/
def quotedCard : Claim7 := { stood := { row := quotedRow, standIns := [], harness := (true, "8b8d31248b04c41efaabc854ad32e9845434f9871b1c0a49484c642e983cc106"), looks := true }, kinds := [], alts := [], laidByText := true, laidKinds := [.data, .data, .data, .data, .sentinel, .sentinel, .pinned], laidTests := true, laidLooks := .later }
def QuotedCardSaid : Prop := Claim7.holds Tryz.pinned (.plain (OpenSpec.ofChange quotedSpec)) quotedCard

/-- THE TIED CARD OF 'rubrickeep.Listed'. -/
def listedCard : Claim7 := { stood := { row := listedRow, standIns := [], harness := (true, "8b8d31248b04c41efaabc854ad32e9845434f9871b1c0a49484c642e983cc106"), looks := true }, kinds := [], alts := [], laidByText := true, laidKinds := [.data, .data, .data, .data, .sentinel, .sentinel, .pinned], laidTests := true, laidLooks := .later }
def ListedCardSaid : Prop := Claim7.holds Tryz.pinned (.plain (OpenSpec.ofChange listedSpec)) listedCard

/-- THE TIED CARD OF 'rubrickeep.Escaped'. -/
def escapedCard : Claim7 := { stood := { row := escapedRow, standIns := [], harness := (true, "8b8d31248b04c41efaabc854ad32e9845434f9871b1c0a49484c642e983cc106"), looks := true }, kinds := [], alts := [], laidByText := true, laidKinds := [.data, .data, .data, .data, .sentinel, .sentinel, .pinned], laidTests := true, laidLooks := .later }
def EscapedCardSaid : Prop := Claim7.holds Tryz.pinned (.plain (OpenSpec.ofChange escapedSpec)) escapedCard

/-- THE TIED CARD OF 'rubrickeep.Nested'. -/
def nestedCard : Claim7 := { stood := { row := nestedRow, standIns := [], harness := (true, "8b8d31248b04c41efaabc854ad32e9845434f9871b1c0a49484c642e983cc106"), looks := true }, kinds := [], alts := [], laidByText := true, laidKinds := [.data, .data, .data, .data, .sentinel, .sentinel, .pinned], laidTests := true, laidLooks := .later }
def NestedCardSaid : Prop := Claim7.holds Tryz.pinned (.plain (OpenSpec.ofChange nestedSpec)) nestedCard

/-- THE SECOND FORM's CARD OF 'rubriclaw.Blocks'. -/
def blocksUptoCard : Claim7 := { stood := { row := blocksUptoRow, standIns := [], harness := (true, "8b8d31248b04c41efaabc854ad32e9845434f9871b1c0a49484c642e983cc106"), looks := true }, kinds := [], alts := [], laidByText := true, laidKinds := [.data, .data, .data, .data, .sentinel, .sentinel, .pinned], laidTests := true, laidLooks := .later }
def BlocksUptoCardSaid : Prop := Claim7.holds Tryz.pinned (.plain (OpenSpec.upto blocksSpec)) blocksUptoCard

/-- THE SECOND FORM's CARD OF 'rubrickeep.Fenced'. -/
def fencedUptoCard : Claim7 := { stood := { row := fencedUptoRow, standIns := [], harness := (true, "8b8d31248b04c41efaabc854ad32e9845434f9871b1c0a49484c642e983cc106"), looks := true }, kinds := [], alts := [], laidByText := true, laidKinds := [.data, .data, .data, .data, .sentinel, .sentinel, .pinned], laidTests := true, laidLooks := .later }
def FencedUptoCardSaid : Prop := Claim7.holds Tryz.pinned (.plain (OpenSpec.upto fencedSpec)) fencedUptoCard

/-- THE SECOND FORM's CARD OF 'rubriclaw.Trees'. -/
def treesUptoCard : Claim7 := { stood := { row := treesUptoRow, standIns := [], harness := (true, "8b8d31248b04c41efaabc854ad32e9845434f9871b1c0a49484c642e983cc106"), looks := true }, kinds := [], alts := [], laidByText := true, laidKinds := [.data, .data, .data, .data, .sentinel, .sentinel, .pinned], laidTests := true, laidLooks := .later }
def TreesUptoCardSaid : Prop := Claim7.holds Tryz.pinned (.plain (OpenSpec.upto treesSpec)) treesUptoCard

/-- THE SECOND FORM's CARD OF 'rubrickeep.Quoted'. -/
def quotedUptoCard : Claim7 := { stood := { row := quotedUptoRow, standIns := [], harness := (true, "8b8d31248b04c41efaabc854ad32e9845434f9871b1c0a49484c642e983cc106"), looks := true }, kinds := [], alts := [], laidByText := true, laidKinds := [.data, .data, .data, .data, .sentinel, .sentinel, .pinned], laidTests := true, laidLooks := .later }
def QuotedUptoCardSaid : Prop := Claim7.holds Tryz.pinned (.plain (OpenSpec.upto quotedSpec)) quotedUptoCard

/-- THE SECOND FORM's CARD OF 'rubrickeep.Listed'. -/
def listedUptoCard : Claim7 := { stood := { row := listedUptoRow, standIns := [], harness := (true, "8b8d31248b04c41efaabc854ad32e9845434f9871b1c0a49484c642e983cc106"), looks := true }, kinds := [], alts := [], laidByText := true, laidKinds := [.data, .data, .data, .data, .sentinel, .sentinel, .pinned], laidTests := true, laidLooks := .later }
def ListedUptoCardSaid : Prop := Claim7.holds Tryz.pinned (.plain (OpenSpec.upto listedSpec)) listedUptoCard

/-- THE SECOND FORM's CARD OF 'rubrickeep.Escaped'. -/
def escapedUptoCard : Claim7 := { stood := { row := escapedUptoRow, standIns := [], harness := (true, "8b8d31248b04c41efaabc854ad32e9845434f9871b1c0a49484c642e983cc106"), looks := true }, kinds := [], alts := [], laidByText := true, laidKinds := [.data, .data, .data, .data, .sentinel, .sentinel, .pinned], laidTests := true, laidLooks := .later }
def EscapedUptoCardSaid : Prop := Claim7.holds Tryz.pinned (.plain (OpenSpec.upto escapedSpec)) escapedUptoCard

/-- THE SECOND FORM's CARD OF 'rubrickeep.Nested'. -/
def nestedUptoCard : Claim7 := { stood := { row := nestedUptoRow, standIns := [], harness := (true, "8b8d31248b04c41efaabc854ad32e9845434f9871b1c0a49484c642e983cc106"), looks := true }, kinds := [], alts := [], laidByText := true, laidKinds := [.data, .data, .data, .data, .sentinel, .sentinel, .pinned], laidTests := true, laidLooks := .later }
def NestedUptoCardSaid : Prop := Claim7.holds Tryz.pinned (.plain (OpenSpec.upto nestedSpec)) nestedUptoCard
end Rows
end Go.Proofs.YtpoaadfkalnjgaaGreatDoor
