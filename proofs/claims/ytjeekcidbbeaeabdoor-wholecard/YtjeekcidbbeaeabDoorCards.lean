/-
  DERIVED. GIVEN WITH THE SEED: THE CARDS: each row of YtjeekcidbbeaeabDoorRows.lean that lists a variable, with what it lists TIED to the program's text (the seventh form; the later family's looks); each row that meets fmt, with fmt's text TOLD by the authors' own Lean function (tested against real Go, not proved from fmt's source: count such statements apart). THE CARD IS WHAT COUNTS. Prove the row's statement (the work); the ties are given (YtjeekcidbbeaeabDoorTie.lean); close each card by the builder's one call (the guide's Derived/Test/ToyasCard.lean, 'card_holds'). Laid BY PROGRAM, IN A SANDBOX (cutbox-door.mjs). By AI agents, Wed Nov 11 2026. No macro, syntax, notation, axiom, sorry.
-/
import Derived.Test.YtjeekcidbbeaeabDoorRows
import GoSem.ClaimSeven
namespace Go.Proofs.YtjeekcidbbeaeabDoor
namespace Rows

/-- THE TIED CARD OF 'wordcutkeep.Whole'. -/
def wholeCard : Claim7 := { stood := { row := wholeRow, standIns := [], harness := (true, "bfbd0d8d53df4b7048ad140e08c2ff0307759ae3f626398eec8c6bcc977af19c"), looks := false }, kinds := [], alts := [], laidByText := true, laidKinds := [.data, .data, .data], laidTests := true, laidLooks := .later }
def WholeCardSaid : Prop := Claim7.holds Tryd.pinned (.plain (OpenSpec.ofChange wholeSpec)) wholeCard

/-- THE TIED CARD OF 'wordcutkeep.Joined'. -/
def joinedCard : Claim7 := { stood := { row := joinedRow, standIns := [], harness := (true, "bfbd0d8d53df4b7048ad140e08c2ff0307759ae3f626398eec8c6bcc977af19c"), looks := false }, kinds := [], alts := [], laidByText := true, laidKinds := [.data, .data, .data], laidTests := true, laidLooks := .later }
def JoinedCardSaid : Prop := Claim7.holds Tryd.pinned (.plain (OpenSpec.ofChange joinedSpec)) joinedCard

/-- THE SECOND FORM's CARD OF 'wordcutkeep.Whole'. -/
def wholeUptoCard : Claim7 := { stood := { row := wholeUptoRow, standIns := [], harness := (true, "bfbd0d8d53df4b7048ad140e08c2ff0307759ae3f626398eec8c6bcc977af19c"), looks := false }, kinds := [], alts := [], laidByText := true, laidKinds := [.data, .data, .data], laidTests := true, laidLooks := .later }
def WholeUptoCardSaid : Prop := Claim7.holds Tryd.pinned (.plain (OpenSpec.upto wholeSpec)) wholeUptoCard

/-- THE SECOND FORM's CARD OF 'wordcutkeep.Joined'. -/
def joinedUptoCard : Claim7 := { stood := { row := joinedUptoRow, standIns := [], harness := (true, "bfbd0d8d53df4b7048ad140e08c2ff0307759ae3f626398eec8c6bcc977af19c"), looks := false }, kinds := [], alts := [], laidByText := true, laidKinds := [.data, .data, .data], laidTests := true, laidLooks := .later }
def JoinedUptoCardSaid : Prop := Claim7.holds Tryd.pinned (.plain (OpenSpec.upto joinedSpec)) joinedUptoCard
end Rows
end Go.Proofs.YtjeekcidbbeaeabDoor
