/-
  DERIVED. GIVEN WITH THE SEED: THE CARDS: each row of YtdofjmfbkpdppaaDoorRows.lean that lists a variable, with what it lists TIED to the program's text (the seventh form; the later family's looks); each row that meets fmt, with fmt's text TOLD by the authors' own Lean function (tested against real Go, not proved from fmt's source: count such statements apart). THE CARD IS WHAT COUNTS. Prove the row's statement (the work); the ties are given (YtdofjmfbkpdppaaDoorTie.lean); close each card by the builder's one call (the guide's Derived/Test/ToyasCard.lean, 'card_holds'). Laid BY PROGRAM, IN A SANDBOX (cutbox-door.mjs). By AI agents, Wed Nov 11 2026. No macro, syntax, notation, axiom, sorry.
-/
import Derived.Test.YtdofjmfbkpdppaaDoorRows
import GoSem.ClaimSeven
namespace Go.Proofs.YtdofjmfbkpdppaaDoor
namespace Rows

/-- THE TIED CARD OF 'wordcutkeep.Round'. -/
def roundCard : Claim7 := { stood := { row := roundRow, standIns := [], harness := (true, "067d336f3831b88ed65db9ab567d567a4c63e523f5ac0db0cc2798ff9009ed88"), looks := false }, kinds := [], alts := [], laidByText := true, laidKinds := [.data, .data, .data], laidTests := true, laidLooks := .later }
def RoundCardSaid : Prop := Claim7.holds Tryd.pinned (.plain (OpenSpec.ofChange roundSpec)) roundCard

/-- THE TIED CARD OF 'wordcutkeep.Layered'. -/
def layeredCard : Claim7 := { stood := { row := layeredRow, standIns := [], harness := (true, "067d336f3831b88ed65db9ab567d567a4c63e523f5ac0db0cc2798ff9009ed88"), looks := false }, kinds := [], alts := [], laidByText := true, laidKinds := [.data, .data, .data], laidTests := true, laidLooks := .later }
def LayeredCardSaid : Prop := Claim7.holds Tryd.pinned (.plain (OpenSpec.ofChange layeredSpec)) layeredCard

/-- THE SECOND FORM's CARD OF 'wordcutkeep.Round'. -/
def roundUptoCard : Claim7 := { stood := { row := roundUptoRow, standIns := [], harness := (true, "067d336f3831b88ed65db9ab567d567a4c63e523f5ac0db0cc2798ff9009ed88"), looks := false }, kinds := [], alts := [], laidByText := true, laidKinds := [.data, .data, .data], laidTests := true, laidLooks := .later }
def RoundUptoCardSaid : Prop := Claim7.holds Tryd.pinned (.plain (OpenSpec.upto roundSpec)) roundUptoCard

/-- THE SECOND FORM's CARD OF 'wordcutkeep.Layered'. -/
def layeredUptoCard : Claim7 := { stood := { row := layeredUptoRow, standIns := [], harness := (true, "067d336f3831b88ed65db9ab567d567a4c63e523f5ac0db0cc2798ff9009ed88"), looks := false }, kinds := [], alts := [], laidByText := true, laidKinds := [.data, .data, .data], laidTests := true, laidLooks := .later }
def LayeredUptoCardSaid : Prop := Claim7.holds Tryd.pinned (.plain (OpenSpec.upto layeredSpec)) layeredUptoCard
end Rows
end Go.Proofs.YtdofjmfbkpdppaaDoor
