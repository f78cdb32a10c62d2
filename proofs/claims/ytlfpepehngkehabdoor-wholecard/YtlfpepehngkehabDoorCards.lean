/-
  DERIVED. GIVEN WITH THE SEED: THE CARDS: each row of YtlfpepehngkehabDoorRows.lean that lists a variable, with what it lists TIED to the program's text (the seventh form; the later family's looks); each row that meets fmt, with fmt's text TOLD by the authors' own Lean function (tested against real Go, not proved from fmt's source: count such statements apart). THE CARD IS WHAT COUNTS. Prove the row's statement (the work); the ties are given (YtlfpepehngkehabDoorTie.lean); close each card by the builder's one call (the guide's Derived/Test/ToyasCard.lean, 'card_holds'). Laid BY PROGRAM, IN A SANDBOX (cutbox-door.mjs). By AI agents, Wed Nov 11 2026. No macro, syntax, notation, axiom, sorry.
-/
import Derived.Test.YtlfpepehngkehabDoorRows
import GoSem.ClaimSeven
namespace Go.Proofs.YtlfpepehngkehabDoor
namespace Rows

/-- THE TIED CARD OF 'wordcutkeep.Whole'. -/
def wholeCard : Claim7 := { stood := { row := wholeRow, standIns := [], harness := (true, "b680cd11935f19d6366e34096940aece49598713e3a2e9bb35fab86b18cd3966"), looks := false }, kinds := [], alts := [], laidByText := true, laidKinds := [.data, .data, .data], laidTests := true, laidLooks := .later }
def WholeCardSaid : Prop := Claim7.holds Tryd.pinned (.plain (OpenSpec.ofChange wholeSpec)) wholeCard

/-- THE TIED CARD OF 'wordcutkeep.Joined'. -/
def joinedCard : Claim7 := { stood := { row := joinedRow, standIns := [], harness := (true, "b680cd11935f19d6366e34096940aece49598713e3a2e9bb35fab86b18cd3966"), looks := false }, kinds := [], alts := [], laidByText := true, laidKinds := [.data, .data, .data], laidTests := true, laidLooks := .later }
def JoinedCardSaid : Prop := Claim7.holds Tryd.pinned (.plain (OpenSpec.ofChange joinedSpec)) joinedCard

/-- THE TIED CARD OF 'wordcutkeep.Steps'. -/
def stepsCard : Claim7 := { stood := { row := stepsRow, standIns := [], harness := (true, "b680cd11935f19d6366e34096940aece49598713e3a2e9bb35fab86b18cd3966"), looks := false }, kinds := [], alts := [], laidByText := true, laidKinds := [.data, .data, .data], laidTests := true, laidLooks := .later }
def StepsCardSaid : Prop := Claim7.holds Tryd.pinned (.plain (OpenSpec.ofChange stepsSpec)) stepsCard

/-- THE SECOND FORM's CARD OF 'wordcutkeep.Whole'. -/
def wholeUptoCard : Claim7 := { stood := { row := wholeUptoRow, standIns := [], harness := (true, "b680cd11935f19d6366e34096940aece49598713e3a2e9bb35fab86b18cd3966"), looks := false }, kinds := [], alts := [], laidByText := true, laidKinds := [.data, .data, .data], laidTests := true, laidLooks := .later }
def WholeUptoCardSaid : Prop := Claim7.holds Tryd.pinned (.plain (OpenSpec.upto wholeSpec)) wholeUptoCard

/-- THE SECOND FORM's CARD OF 'wordcutkeep.Joined'. -/
def joinedUptoCard : Claim7 := { stood := { row := joinedUptoRow, standIns := [], harness := (true, "b680cd11935f19d6366e34096940aece49598713e3a2e9bb35fab86b18cd3966"), looks := false }, kinds := [], alts := [], laidByText := true, laidKinds := [.data, .data, .data], laidTests := true, laidLooks := .later }
def JoinedUptoCardSaid : Prop := Claim7.holds Tryd.pinned (.plain (OpenSpec.upto joinedSpec)) joinedUptoCard

/-- THE SECOND FORM's CARD OF 'wordcutkeep.Steps'. -/
def stepsUptoCard : Claim7 := { stood := { row := stepsUptoRow, standIns := [], harness := (true, "b680cd11935f19d6366e34096940aece49598713e3a2e9bb35fab86b18cd3966"), looks := false }, kinds := [], alts := [], laidByText := true, laidKinds := [.data, .data, .data], laidTests := true, laidLooks := .later }
def StepsUptoCardSaid : Prop := Claim7.holds Tryd.pinned (.plain (OpenSpec.upto stepsSpec)) stepsUptoCard
end Rows
end Go.Proofs.YtlfpepehngkehabDoor
