/-
  No cell of these rows narrows 'for every input' (looked for: loops, veiled, ifaces, maps, wideKeys, modest, calm, conditions, laid).
  DERIVED. THE GIVEN ROWS OF THIS SEAT. 7 by the template 'for every input the law returns true; each argument reads behind the call as it read before'; 0 by the template 'total and deterministic' (their statements: YtlfpepehngkehaaTotals.lean).
  GIVEN WITH THE SEED: the statements are not yours to turn. If you find one false, say at which input.
  Laid BY PROGRAM, IN A SANDBOX (cutbox-rows.mjs): the forced cells as the released guide's own fill.sh prints them over the translation 08d2fc47c7b64da4… (all of the seat's roots in one cut). By AI agents, Wed Nov 11 2026. No macro, syntax, notation, axiom, sorry.
-/
import Derived.Test.YtlfpepehngkehaaChecked
import GoSem.Claim
import GoSem.ClaimJoined
import GoSem.ClaimMapViews
import Derived.JoinedTies
import Derived.KernelRfl
namespace Go.Proofs.Ytlfpepehngkehaa
/- THE CELL 'sum', in the pinned program and in every row, IS THE sha256 OF THE DUMP (.gsa) THAT YtlfpepehngkehaaProg.lean LOADS. Nothing in Lean hashes anything: it is a label: what it is worth is what the hold of that sum in a sandbox is worth. -/
noncomputable def Try.pinned : Pinned := { name := "ytlfpepehngkehaa", sum := "08d2fc47c7b64da4d2ef9bc3afd5a9547d78a1037cee9a70e2b20e69065074b0", checked := Try.checked }
namespace Rows
def none {H : Type} : Left H := { results := [], args := [] }

/-- 'wordcutlaw.Checks': WHATEVER THE INPUT: true; the input reads as it did. -/
def checksSpec : ChangeSpec := { name := "checks", fn := fun _ => fun
  | [d] => { results := [.lit (.bool true)], args := [d] }
  | _ => none }
def checksRow : OpenClaim := { program := "ytlfpepehngkehaa", sum := "08d2fc47c7b64da4d2ef9bc3afd5a9547d78a1037cee9a70e2b20e69065074b0", func := "wordcut/wordcutlaw.Checks", spec := "checks", apart := false }
def ChecksSaid : Prop := checksRow.holds Try.pinned (OpenSpec.ofChange checksSpec)

/-- ITS FALSE NEIGHBOUR: 'it returns false'. Refute it at one input. -/
def checksWrong : ChangeSpec := { name := "checks", fn := fun _ => fun
  | [d] => { results := [.lit (.bool false)], args := [d] }
  | _ => none }
def ChecksWrongFalsely : Prop := checksRow.holds Try.pinned (OpenSpec.ofChange checksWrong)

/-- 'wordcutlaw.Builds': WHATEVER THE INPUT: true; the input reads as it did. -/
def buildsSpec : ChangeSpec := { name := "builds", fn := fun _ => fun
  | [d1, d2] => { results := [.lit (.bool true)], args := [d1, d2] }
  | _ => none }
def buildsRow : OpenClaim := { program := "ytlfpepehngkehaa", sum := "08d2fc47c7b64da4d2ef9bc3afd5a9547d78a1037cee9a70e2b20e69065074b0", func := "wordcut/wordcutlaw.Builds", spec := "builds", apart := false }
def BuildsSaid : Prop := buildsRow.holds Try.pinned (OpenSpec.ofChange buildsSpec)

/-- ITS FALSE NEIGHBOUR: 'it returns false'. Refute it at one input. -/
def buildsWrong : ChangeSpec := { name := "builds", fn := fun _ => fun
  | [d1, d2] => { results := [.lit (.bool false)], args := [d1, d2] }
  | _ => none }
def BuildsWrongFalsely : Prop := buildsRow.holds Try.pinned (OpenSpec.ofChange buildsWrong)

/-- 'wordcutlaw.Images': WHATEVER THE INPUT: true; the input reads as it did. -/
def imagesSpec : ChangeSpec := { name := "images", fn := fun _ => fun
  | [d] => { results := [.lit (.bool true)], args := [d] }
  | _ => none }
def imagesRow : OpenClaim := { program := "ytlfpepehngkehaa", sum := "08d2fc47c7b64da4d2ef9bc3afd5a9547d78a1037cee9a70e2b20e69065074b0", func := "wordcut/wordcutlaw.Images", spec := "images", apart := false }
def ImagesSaid : Prop := imagesRow.holds Try.pinned (OpenSpec.ofChange imagesSpec)

/-- ITS FALSE NEIGHBOUR: 'it returns false'. Refute it at one input. -/
def imagesWrong : ChangeSpec := { name := "images", fn := fun _ => fun
  | [d] => { results := [.lit (.bool false)], args := [d] }
  | _ => none }
def ImagesWrongFalsely : Prop := imagesRow.holds Try.pinned (OpenSpec.ofChange imagesWrong)

/-- 'wordcutlaw.Loads': WHATEVER THE INPUT: true; the input reads as it did. -/
def loadsSpec : ChangeSpec := { name := "loads", fn := fun _ => fun
  | [d1, d2] => { results := [.lit (.bool true)], args := [d1, d2] }
  | _ => none }
def loadsRow : OpenClaim := { program := "ytlfpepehngkehaa", sum := "08d2fc47c7b64da4d2ef9bc3afd5a9547d78a1037cee9a70e2b20e69065074b0", func := "wordcut/wordcutlaw.Loads", spec := "loads", apart := false }
def LoadsSaid : Prop := loadsRow.holds Try.pinned (OpenSpec.ofChange loadsSpec)

/-- ITS FALSE NEIGHBOUR: 'it returns false'. Refute it at one input. -/
def loadsWrong : ChangeSpec := { name := "loads", fn := fun _ => fun
  | [d1, d2] => { results := [.lit (.bool false)], args := [d1, d2] }
  | _ => none }
def LoadsWrongFalsely : Prop := loadsRow.holds Try.pinned (OpenSpec.ofChange loadsWrong)

/-- 'wordcutlaw.Cuts': WHATEVER THE INPUT: true; the input reads as it did. -/
def cutsSpec : ChangeSpec := { name := "cuts", fn := fun _ => fun
  | [d1, d2] => { results := [.lit (.bool true)], args := [d1, d2] }
  | _ => none }
def cutsRow : OpenClaim := { program := "ytlfpepehngkehaa", sum := "08d2fc47c7b64da4d2ef9bc3afd5a9547d78a1037cee9a70e2b20e69065074b0", func := "wordcut/wordcutlaw.Cuts", spec := "cuts", recurses := true, apart := false }
def CutsSaid : Prop := cutsRow.holds Try.pinned (OpenSpec.ofChange cutsSpec)

/-- ITS FALSE NEIGHBOUR: 'it returns false'. Refute it at one input. -/
def cutsWrong : ChangeSpec := { name := "cuts", fn := fun _ => fun
  | [d1, d2] => { results := [.lit (.bool false)], args := [d1, d2] }
  | _ => none }
def CutsWrongFalsely : Prop := cutsRow.holds Try.pinned (OpenSpec.ofChange cutsWrong)

/-- 'wordcutlaw.Walks': WHATEVER THE INPUT: true; the input reads as it did. -/
def walksSpec : ChangeSpec := { name := "walks", fn := fun _ => fun
  | [d1, d2, d3] => { results := [.lit (.bool true)], args := [d1, d2, d3] }
  | _ => none }
def walksRow : OpenClaim := { program := "ytlfpepehngkehaa", sum := "08d2fc47c7b64da4d2ef9bc3afd5a9547d78a1037cee9a70e2b20e69065074b0", func := "wordcut/wordcutlaw.Walks", spec := "walks", recurses := true, apart := false }
def WalksSaid : Prop := walksRow.holds Try.pinned (OpenSpec.ofChange walksSpec)

/-- ITS FALSE NEIGHBOUR: 'it returns false'. Refute it at one input. -/
def walksWrong : ChangeSpec := { name := "walks", fn := fun _ => fun
  | [d1, d2, d3] => { results := [.lit (.bool false)], args := [d1, d2, d3] }
  | _ => none }
def WalksWrongFalsely : Prop := walksRow.holds Try.pinned (OpenSpec.ofChange walksWrong)

/-- 'wordcutkeep.Known': WHATEVER THE INPUT: true; the input reads as it did. -/
def knownSpec : ChangeSpec := { name := "known", fn := fun _ => fun
  | [d] => { results := [.lit (.bool true)], args := [d] }
  | _ => none }
def knownRow : OpenClaim := { program := "ytlfpepehngkehaa", sum := "08d2fc47c7b64da4d2ef9bc3afd5a9547d78a1037cee9a70e2b20e69065074b0", func := "wordcut/wordcutkeep.Known", spec := "known", apart := false }
def KnownSaid : Prop := knownRow.holds Try.pinned (OpenSpec.ofChange knownSpec)

/-- ITS FALSE NEIGHBOUR: 'it returns false'. Refute it at one input. -/
def knownWrong : ChangeSpec := { name := "known", fn := fun _ => fun
  | [d] => { results := [.lit (.bool false)], args := [d] }
  | _ => none }
def KnownWrongFalsely : Prop := knownRow.holds Try.pinned (OpenSpec.ofChange knownWrong)

/- THE SECOND FORM. 'bulk': how many values and letters a reading holds, each counted each time it is reached (what is shared counts as often as it is met; a slice's spare places count too). A statement '..UptoSaid' is the law's where the arguments, and the package variables that the reading takes, are together of bulk at most 1048576: NARROWER than '..Said'. Prove '..Said' where nothing that the law and all that it calls make is longer than what came in: it says more and counts as full. Else prove '..UptoSaid'. A law counts once. -/
mutual
def uptoBulk {H : Type} : DataW H → Nat
  | .lit (.string bytes) => bytes.length + 1
  | .lit _ => 1
  | .nil => 1
  | .ptr d => uptoBulk d + 1
  | .slice elems spare => uptoBulkAll elems + uptoBulkAll spare + 1
  | .agg parts => uptoBulkAll parts + 1
  | .iface _ d => uptoBulk d + 1
  | .map entries => uptoBulkEntries entries + 1
  | .held _ => 1
def uptoBulkAll {H : Type} : List (DataW H) → Nat
  | [] => 0
  | d :: r => uptoBulk d + uptoBulkAll r
def uptoBulkEntries {H : Type} : List (Lit × DataW H) → Nat
  | [] => 0
  | x :: r => uptoBulkEntry x + uptoBulkEntries r
def uptoBulkEntry {H : Type} : Lit × DataW H → Nat
  | (.string bytes, d) => bytes.length + uptoBulk d + 1
  | (_, d) => uptoBulk d + 1
 end
def uptoSmall : (H : Type) → List (DataW H) → Bool := fun _ ds => decide (uptoBulkAll ds ≤ 1048576)
def OpenSpec.upto (s : _root_.Go.ChangeSpec) : _root_.Go.OpenSpec := { _root_.Go.OpenSpec.ofChange s with cond := some uptoSmall }

/-- 'wordcutlaw.Checks', WHERE WHAT IT READS IS OF BULK AT MOST 1048576: true; the input reads as it did. -/
def checksUptoRow : OpenClaim := { program := "ytlfpepehngkehaa", sum := "08d2fc47c7b64da4d2ef9bc3afd5a9547d78a1037cee9a70e2b20e69065074b0", func := "wordcut/wordcutlaw.Checks", spec := "checks", apart := false, narrowed := true }
def ChecksUptoSaid : Prop := checksUptoRow.holds Try.pinned (OpenSpec.upto checksSpec)

/-- 'wordcutlaw.Builds', WHERE WHAT IT READS IS OF BULK AT MOST 1048576: true; the input reads as it did. -/
def buildsUptoRow : OpenClaim := { program := "ytlfpepehngkehaa", sum := "08d2fc47c7b64da4d2ef9bc3afd5a9547d78a1037cee9a70e2b20e69065074b0", func := "wordcut/wordcutlaw.Builds", spec := "builds", apart := false, narrowed := true }
def BuildsUptoSaid : Prop := buildsUptoRow.holds Try.pinned (OpenSpec.upto buildsSpec)

/-- 'wordcutlaw.Images', WHERE WHAT IT READS IS OF BULK AT MOST 1048576: true; the input reads as it did. -/
def imagesUptoRow : OpenClaim := { program := "ytlfpepehngkehaa", sum := "08d2fc47c7b64da4d2ef9bc3afd5a9547d78a1037cee9a70e2b20e69065074b0", func := "wordcut/wordcutlaw.Images", spec := "images", apart := false, narrowed := true }
def ImagesUptoSaid : Prop := imagesUptoRow.holds Try.pinned (OpenSpec.upto imagesSpec)

/-- 'wordcutlaw.Loads', WHERE WHAT IT READS IS OF BULK AT MOST 1048576: true; the input reads as it did. -/
def loadsUptoRow : OpenClaim := { program := "ytlfpepehngkehaa", sum := "08d2fc47c7b64da4d2ef9bc3afd5a9547d78a1037cee9a70e2b20e69065074b0", func := "wordcut/wordcutlaw.Loads", spec := "loads", apart := false, narrowed := true }
def LoadsUptoSaid : Prop := loadsUptoRow.holds Try.pinned (OpenSpec.upto loadsSpec)

/-- 'wordcutlaw.Cuts', WHERE WHAT IT READS IS OF BULK AT MOST 1048576: true; the input reads as it did. -/
def cutsUptoRow : OpenClaim := { program := "ytlfpepehngkehaa", sum := "08d2fc47c7b64da4d2ef9bc3afd5a9547d78a1037cee9a70e2b20e69065074b0", func := "wordcut/wordcutlaw.Cuts", spec := "cuts", recurses := true, apart := false, narrowed := true }
def CutsUptoSaid : Prop := cutsUptoRow.holds Try.pinned (OpenSpec.upto cutsSpec)

/-- 'wordcutlaw.Walks', WHERE WHAT IT READS IS OF BULK AT MOST 1048576: true; the input reads as it did. -/
def walksUptoRow : OpenClaim := { program := "ytlfpepehngkehaa", sum := "08d2fc47c7b64da4d2ef9bc3afd5a9547d78a1037cee9a70e2b20e69065074b0", func := "wordcut/wordcutlaw.Walks", spec := "walks", recurses := true, apart := false, narrowed := true }
def WalksUptoSaid : Prop := walksUptoRow.holds Try.pinned (OpenSpec.upto walksSpec)

/-- 'wordcutkeep.Known', WHERE WHAT IT READS IS OF BULK AT MOST 1048576: true; the input reads as it did. -/
def knownUptoRow : OpenClaim := { program := "ytlfpepehngkehaa", sum := "08d2fc47c7b64da4d2ef9bc3afd5a9547d78a1037cee9a70e2b20e69065074b0", func := "wordcut/wordcutkeep.Known", spec := "known", apart := false, narrowed := true }
def KnownUptoSaid : Prop := knownUptoRow.holds Try.pinned (OpenSpec.upto knownSpec)

end Rows
end Go.Proofs.Ytlfpepehngkehaa
