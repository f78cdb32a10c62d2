/-
  Walks: the keep statements' sorts, and texts without marks at their beginning.
-/
import Derived.Test.YtlfpepehngkehabDoorRows
import Derived.Test.YtlfpepehngkehabDoorMaths
import Derived.Test.YtlfpepehngkehabDoorKeptW
import Derived.WalkKit
import Derived.WalkSpells
import Derived.WalkLawsBesides
import Derived.Deep.LoopGhost
namespace Go.Proofs.YtlfpepehngkehabDoor
set_option linter.unusedSimpArgs false
set_option linter.unusedVariables false
open Go.RowKit

set_option maxHeartbeats 1000000 in
theorem ksort_any (c : Nat) (w : World) (hc : c < 256) :
    Calls Tryd.prog 9 #[.int .u8 c] w fun e w' => e = .returned (.int .i64 (ksort c)) ∧ w' = w := by
  obtain ⟨r, hr⟩ : ∃ r, r = ksort c := ⟨_, rfl⟩
  rw [← hr]
  have HR : Hid (r = ksort c) := hr
  clear hr
  by_cases a1 : 97 ≤ c ∧ c ≤ 122
  · have hr : r = 1 := by rw [HR.out]; unfold ksort; rw [if_pos a1]
    subst hr
    have b1 : (97 : Int) ≤ (c : Int) := by omega
    have b2 : (c : Int) ≤ 122 := by omega
    clear a1
    go_enter Tryd.func9, Tryd.ntmps9
    go_wp2
    go_ret
    exact ⟨rfl, rfl⟩
  · have b1 : ¬ (97 : Int) ≤ (c : Int) ∨ ((97 : Int) ≤ (c : Int) ∧ ¬ (c : Int) ≤ 122) := by omega
    by_cases a2 : 65 ≤ c ∧ c ≤ 90
    · have hr : r = 2 := by rw [HR.out]; unfold ksort; rw [if_neg a1, if_pos a2]
      subst hr
      have d0 : ¬ (97 : Int) ≤ (c : Int) := by omega
      have d1 : (65 : Int) ≤ (c : Int) := by omega
      have d2 : (c : Int) ≤ 90 := by omega
      clear a1 a2 b1
      go_enter Tryd.func9, Tryd.ntmps9
      go_wp2
      go_ret
      exact ⟨rfl, rfl⟩
    · by_cases a3 : 48 ≤ c ∧ c ≤ 57
      · have hr : r = 3 := by rw [HR.out]; unfold ksort; rw [if_neg a1, if_neg a2, if_pos a3]
        subst hr
        have d0 : ¬ (97 : Int) ≤ (c : Int) := by omega
        have d1 : ¬ (65 : Int) ≤ (c : Int) := by omega
        have d2 : (48 : Int) ≤ (c : Int) := by omega
        have d3 : (c : Int) ≤ 57 := by omega
        clear a1 a2 a3 b1
        go_enter Tryd.func9, Tryd.ntmps9
        go_wp2
        go_ret
        exact ⟨rfl, rfl⟩
      · have b2 : ¬ (65 : Int) ≤ (c : Int) ∨ ((65 : Int) ≤ (c : Int) ∧ ¬ (c : Int) ≤ 90) := by omega
        have b3 : ¬ (48 : Int) ≤ (c : Int) ∨ ((48 : Int) ≤ (c : Int) ∧ ¬ (c : Int) ≤ 57) := by omega
        by_cases a4 : c = 32
        · have hr : r = 4 := by rw [HR.out]; unfold ksort; rw [if_neg a1, if_neg a2, if_neg a3, if_pos a4]
          subst hr
          subst a4
          clear a1 a2 a3 b1 b2 b3
          go_enter Tryd.func9, Tryd.ntmps9
          go_wp2
          go_ret
          exact ⟨rfl, rfl⟩
        · have hr : r = 0 := by rw [HR.out]; unfold ksort; rw [if_neg a1, if_neg a2, if_neg a3, if_neg a4]
          subst hr
          have d4 : ((c : Int) == 32) = false := by rw [beq_eq_false_iff_ne]; omega
          clear a1 a2 a3 a4
          rcases b1 with b1 | ⟨b1, b1'⟩
          all_goals rcases b2 with b2 | ⟨b2, b2'⟩
          all_goals rcases b3 with b3 | ⟨b3, b3'⟩
          all_goals first
            | (exfalso; omega)
            | (go_enter Tryd.func9, Tryd.ntmps9
               go_wp2
               go_ret
               exact ⟨rfl, rfl⟩)

def StripRel (w : World) (g : Nat) (v : Value) (wr : World) : Prop := ∃ S : ByteArray, v = .string S ∧ g = S.size ∧ S.size ≤ 9223372036854775807 ∧ wr = w
def StripRes (e : Ending) : Prop := ∃ S : ByteArray, e = .returned (.string S) ∧ S.size ≤ 200 ∧ (0 < S.size → bt S 0 ≠ 126)

set_option maxHeartbeats 1000000 in
theorem stripped_any (s : ByteArray) (w : World) (hs : s.size ≤ 9223372036854775807) :
    Calls Tryd.prog 10 #[.string s] w fun e w' => StripRes e ∧ w' = w := by
  go_enter Tryd.func10, Tryd.ntmps10
  go_wp2_with fail
  go_loopg [0] s.size (fun g v wr => StripRel w g v wr)
  case atStart => exact ⟨s, rfl, rfl, hs, rfl⟩
  case round =>
    obtain ⟨S, rfl, rfl, hS, rfl⟩ := hrel
    by_cases h0 : 0 < S.size
    · have h0' : (0 : Int) < (S.size : Int) := by omega
      have hbt := bt_get S 0 h0
      have h1n : (1 : Int) ≤ (S.size : Int) := by omega
      have h1m : 1 ≤ S.size := h0
      by_cases hm : bt S 0 = 126
      · have hm' : ((bt S 0 : Int) == 126) = true := by rw [hm]; rfl
        have hz : (S.extract 1 S.size).size = S.size - 1 := by simp
        have HN2 : Hid (StripRel wr (S.extract 1 S.size).size (.string (S.extract 1 S.size)) wr) := ⟨_, rfl, rfl, by omega, rfl⟩
        clear hm
        go_wp2_with fail
        go_roundg ((S.extract 1 S.size).size)
        case measure => omega
        case rel => exact HN2.out
      · have hm' : ((bt S 0 : Int) == 126) = false := by rw [beq_eq_false_iff_ne]; omega
        by_cases h200 : 200 < S.size
        · have h200' : (200 : Int) < (S.size : Int) := by omega
          have h200'' : (200 : Int) ≤ (S.size : Int) := by omega
          have HR : Hid (StripRes (.returned (.string (S.extract 0 200)))) := ⟨_, rfl, by simp; omega, fun _ => by rw [bt_extract S 0 200 0 (by omega) (by omega), Nat.zero_add]; exact hm⟩
          clear hm
          go_wp2_with fail
          go_ret
          exact ⟨HR.out, rfl⟩
        · have h200' : ¬ (200 : Int) < (S.size : Int) := by omega
          have HR : Hid (StripRes (.returned (.string S))) := ⟨_, rfl, by omega, fun _ => hm⟩
          clear hm
          go_wp2_with fail
          go_ret
          exact ⟨HR.out, rfl⟩
    · have h0' : ¬ (0 : Int) < (S.size : Int) := by omega
      have h200' : ¬ (200 : Int) < (S.size : Int) := by omega
      have HR : Hid (StripRes (.returned (.string S))) := ⟨_, rfl, by omega, fun h => by omega⟩
      go_wp2_with fail
      go_ret
      exact ⟨HR.out, rfl⟩

end Go.Proofs.YtlfpepehngkehabDoor
