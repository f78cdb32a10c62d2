/-
  Small facts for walks.
-/
import Derived.Test.YtlfpepehngkehabDoorRows
import Derived.Test.YtlfpepehngkehabDoorMaths
import Derived.WalkKit
import Derived.WalkSpells
import Derived.WalkLawsBesides
namespace Go.Proofs.YtlfpepehngkehabDoor
set_option linter.unusedSimpArgs false
set_option linter.unusedVariables false
open Go.RowKit

theorem ret_int {k : IntKind} {a b : Int} (h : a = b) : Ending.returned (.int k a) = .returned (.int k b) := by rw [h]
theorem ret_bool {a b : Bool} (h : a = b) : Ending.returned (.bool a) = .returned (.bool b) := by rw [h]

theorem srt_cast_ne {a : Nat} {b : Int} (h : (a : Int) ≠ b) : ((a : Int) != b) = true := by rw [bne_iff_ne]; omega
theorem srt_cast_eq {a : Nat} {b : Int} (h : (a : Int) = b) : ((a : Int) != b) = false := by subst h; simp

end Go.Proofs.YtlfpepehngkehabDoor
