/-
  Walks: are two lists of boundaries the same?
-/
import Derived.Test.YtlfpepehngkehabDoorRows
import Derived.Test.YtlfpepehngkehabDoorRowsW
import Derived.WalkKit
import Derived.WalkSpells
import Derived.WalkLawsBesides
import Derived.Deep.LoopGhost
import Derived.BigQuiet
import Derived.Deep.QuietTactic
namespace Go.Proofs.YtlfpepehngkehabDoor
set_option linter.unusedSimpArgs false
set_option linter.unusedVariables false
open Go.RowKit

def SameRel (L1 L2 : List Nat) (w : World) (g : Nat) (y : Value) (wr : World) : Prop := ∃ i : Nat, g = L1.length - i ∧ i ≤ L1.length ∧ y = .int .i64 i ∧ (∀ j, j < i → L1[j]? = L2[j]?) ∧ Same w wr

set_option maxHeartbeats 1000000 in
theorem keepSame_any (w : World) (B1 B2 : Nat) (v1 v2 : Value) (L1 L2 : List Nat) (h1 : w.ownsRow B1 3 1 v1 L1.length (intCells L1)) (h2 : w.ownsRow B2 3 1 v2 L2.length (intCells L2)) (he : L1 = L2) (hn1 : L1.length ≤ 1000) :
    Calls Tryd.prog 11 #[v1, v2] w fun e w' => e = .returned (.bool true) ∧ Same w w' := by
  subst he
  have t0 : ((L1.length : Int) != (L1.length : Int)) = false := by simp
  obtain ⟨a1, c1, rfl, hg1⟩ := row_form h1
  obtain ⟨a2, c2, rfl, hg2⟩ := row_form h2
  go_enter Tryd.func11, Tryd.ntmps11
  go_wp2_with fail
  go_loopg [5] L1.length (fun g y wr => SameRel L1 L1 w g y wr)
  case atStart => exact ⟨0, rfl, Nat.zero_le _, rfl, fun j hj => by omega, Same.refl _⟩
  case round =>
    obtain ⟨i, rfl, hi, rfl, _, hs⟩ := hrel
    by_cases hlt : i < L1.length
    · have hlt' : (i : Int) < (L1.length : Int) := by omega
      obtain ⟨g1, rfl⟩ := hg1 (by omega)
      obtain ⟨g2, rfl⟩ := hg2 (by omega)
      have hx := own_int (hs.row h1) rfl hlt
      have hy := own_int (hs.row h2) rfl hlt
      obtain ⟨x, hxd⟩ : ∃ x, x = L1[i] := ⟨_, rfl⟩
      rw [← hxd] at hx hy
      have hxx : ((x : Int) != (x : Int)) = false := by simp
      clear hxd h1 h2
      go_wp2_with fail
      go_quiet (fail)
      go_wp2_with fail
      go_roundg (L1.length - (i + 1))
      case measure => omega
      case rel => exact ⟨i + 1, rfl, hlt, by go_num, fun j _ => rfl, Kept.drewN hs _⟩
    · go_wp2_with fail
      go_ret
      exact ⟨rfl, hs⟩

end Go.Proofs.YtlfpepehngkehabDoor
