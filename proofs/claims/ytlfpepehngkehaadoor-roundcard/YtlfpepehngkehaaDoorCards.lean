/-
  DERIVED. GIVEN WITH THE SEED: THE CARDS: each row of YtlfpepehngkehaaDoorRows.lean that lists a variable, with what it lists TIED to the program's text (the seventh form; the later family's looks); each row that meets fmt, with fmt's text TOLD by the authors' own Lean function (tested against real Go, not proved from fmt's source: count such statements apart). THE CARD IS WHAT COUNTS. Prove the row's statement (the work); the ties are given (YtlfpepehngkehaaDoorTie.lean); close each card by the builder's one call (the guide's Derived/Test/ToyasCard.lean, 'card_holds'). Laid BY PROGRAM, IN A SANDBOX (cutbox-door.mjs). By AI agents, Wed Nov 11 2026. No macro, syntax, notation, axiom, sorry.
-/
import Derived.Test.YtlfpepehngkehaaDoorRows
import GoSem.ClaimSeven
namespace Go.Proofs.YtlfpepehngkehaaDoor
namespace Rows

/-- THE TIED CARD OF 'wordcutkeep.Cheapest'. -/
def cheapestCard : Claim7 := { stood := { row := cheapestRow, standIns := [], harness := (true, "9a6cf8823ea5dc07c458ebc5177a8e75ec9ef995be4eea289c2eefe52ac30de1"), looks := false }, kinds := [], alts := [], laidByText := true, laidKinds := [.data, .data, .data], laidTests := true, laidLooks := .later }
def CheapestCardSaid : Prop := Claim7.holds Tryd.pinned (.plain (OpenSpec.ofChange cheapestSpec)) cheapestCard

/-- THE TIED CARD OF 'wordcutkeep.Farthest'. -/
def farthestCard : Claim7 := { stood := { row := farthestRow, standIns := [], harness := (true, "9a6cf8823ea5dc07c458ebc5177a8e75ec9ef995be4eea289c2eefe52ac30de1"), looks := false }, kinds := [], alts := [], laidByText := true, laidKinds := [.data, .data, .data], laidTests := true, laidLooks := .later }
def FarthestCardSaid : Prop := Claim7.holds Tryd.pinned (.plain (OpenSpec.ofChange farthestSpec)) farthestCard

/-- THE TIED CARD OF 'wordcutkeep.Round'. -/
def roundCard : Claim7 := { stood := { row := roundRow, standIns := [], harness := (true, "9a6cf8823ea5dc07c458ebc5177a8e75ec9ef995be4eea289c2eefe52ac30de1"), looks := false }, kinds := [], alts := [], laidByText := true, laidKinds := [.data, .data, .data], laidTests := true, laidLooks := .later }
def RoundCardSaid : Prop := Claim7.holds Tryd.pinned (.plain (OpenSpec.ofChange roundSpec)) roundCard

/-- THE TIED CARD OF 'wordcutkeep.Layered'. -/
def layeredCard : Claim7 := { stood := { row := layeredRow, standIns := [], harness := (true, "9a6cf8823ea5dc07c458ebc5177a8e75ec9ef995be4eea289c2eefe52ac30de1"), looks := false }, kinds := [], alts := [], laidByText := true, laidKinds := [.data, .data, .data], laidTests := true, laidLooks := .later }
def LayeredCardSaid : Prop := Claim7.holds Tryd.pinned (.plain (OpenSpec.ofChange layeredSpec)) layeredCard

/-- THE SECOND FORM's CARD OF 'wordcutkeep.Cheapest'. -/
def cheapestUptoCard : Claim7 := { stood := { row := cheapestUptoRow, standIns := [], harness := (true, "9a6cf8823ea5dc07c458ebc5177a8e75ec9ef995be4eea289c2eefe52ac30de1"), looks := false }, kinds := [], alts := [], laidByText := true, laidKinds := [.data, .data, .data], laidTests := true, laidLooks := .later }
def CheapestUptoCardSaid : Prop := Claim7.holds Tryd.pinned (.plain (OpenSpec.upto cheapestSpec)) cheapestUptoCard

/-- THE SECOND FORM's CARD OF 'wordcutkeep.Farthest'. -/
def farthestUptoCard : Claim7 := { stood := { row := farthestUptoRow, standIns := [], harness := (true, "9a6cf8823ea5dc07c458ebc5177a8e75ec9ef995be4eea289c2eefe52ac30de1"), looks := false }, kinds := [], alts := [], laidByText := true, laidKinds := [.data, .data, .data], laidTests := true, laidLooks := .later }
def FarthestUptoCardSaid : Prop := Claim7.holds Tryd.pinned (.plain (OpenSpec.upto farthestSpec)) farthestUptoCard

/-- THE SECOND FORM's CARD OF 'wordcutkeep.Round'. -/
def roundUptoCard : Claim7 := { stood := { row := roundUptoRow, standIns := [], harness := (true, "9a6cf8823ea5dc07c458ebc5177a8e75ec9ef995be4eea289c2eefe52ac30de1"), looks := false }, kinds := [], alts := [], laidByText := true, laidKinds := [.data, .data, .data], laidTests := true, laidLooks := .later }
def RoundUptoCardSaid : Prop := Claim7.holds Tryd.pinned (.plain (OpenSpec.upto roundSpec)) roundUptoCard

/-- THE SECOND FORM's CARD OF 'wordcutkeep.Layered'. -/
def layeredUptoCard : Claim7 := { stood := { row := layeredUptoRow, standIns := [], harness := (true, "9a6cf8823ea5dc07c458ebc5177a8e75ec9ef995be4eea289c2eefe52ac30de1"), looks := false }, kinds := [], alts := [], laidByText := true, laidKinds := [.data, .data, .data], laidTests := true, laidLooks := .later }
def LayeredUptoCardSaid : Prop := Claim7.holds Tryd.pinned (.plain (OpenSpec.upto layeredSpec)) layeredUptoCard
end Rows
end Go.Proofs.YtlfpepehngkehaaDoor
