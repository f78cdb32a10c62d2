/-
  Walks: the reference: a text that is too long.
-/
import Derived.Test.YtlfpepehngkehaaGreatRefCutAll
namespace Go.Proofs.YtlfpepehngkehaaGreat
set_option linter.unusedSimpArgs false
set_option linter.unusedVariables false
open Go.RowKit

set_option maxHeartbeats 1000000 in
theorem refCutLong_any (w : World) (B : Nat) (t : ByteArray) (ht : 500 < t.size) (hm : t.size ≤ maxLen) :
    Calls Tryz.prog 61 #[.pointer (some ⟨B, 0, none⟩), .string t] w fun e w' => e = .returned (.tuple #[.slice none 0 0, .int .i64 1]) ∧ w' = w := by
  unfold maxLen at hm
  have ht' : (500 : Int) < (t.size : Int) := by omega
  go_enter Tryz.func61, Tryz.ntmps61
  go_wp2
  go_ret2
  exact ⟨rfl, rfl⟩

end Go.Proofs.YtlfpepehngkehaaGreat
