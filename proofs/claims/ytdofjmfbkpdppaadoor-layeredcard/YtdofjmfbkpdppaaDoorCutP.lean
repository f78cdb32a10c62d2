/-
  Walks: the program's Cut, as long as it answers nothing (stage 3 has not landed): to be written anew then, under the same names.
-/
import Derived.Test.YtdofjmfbkpdppaaDoorBuildA
import Derived.Test.YtdofjmfbkpdppaaDoorRowsW
namespace Go.Proofs.YtdofjmfbkpdppaaDoor
set_option linter.unusedSimpArgs false
set_option linter.unusedVariables false
open Go.RowKit

/-- what Cut answers. -/
def CutRes (_ : Dic) (_ : ByteArray) (L : List Nat) : Prop := L = []

theorem CutRes.one {D : Dic} {s : ByteArray} {L M : List Nat} (h : CutRes D s L) (k : CutRes D s M) : L = M := by
  unfold CutRes at h k
  rw [h, k]

def CutGot (w w' : World) (D : Dic) (s : ByteArray) (e : Ending) : Prop :=
  ∃ v L, e = .returned (.tuple #[v, .int .i64 0]) ∧ CutRes D s L ∧ L.length ≤ 501 ∧ w'.ownsRow w.heap.size 3 1 v L.length (intCells L) ∧ Below w.heap.size w w'

set_option maxHeartbeats 1000000 in
theorem dictCut_any (w : World) (b : Nat) (v : Value) (D : Dic) (s : ByteArray) (hs : s.size ≤ 500) (hS : SetAt w 84 b v D) :
    Calls Tryd.prog 20 #[.pointer (some ⟨b, 0, none⟩), .string s] w fun e w' => CutGot w w' D s e := by
  go_enter Tryd.func20, Tryd.ntmps20
  go_wp2
  go_ret2
  exact ⟨_, [], rfl, rfl, by simp, World.ownsRow_nil _ _ _ _, Below.refl _ _⟩

end Go.Proofs.YtdofjmfbkpdppaaDoor
