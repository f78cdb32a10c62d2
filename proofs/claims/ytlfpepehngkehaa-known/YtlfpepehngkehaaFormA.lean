/-
  Walks: the reference's automaton.
-/
import Derived.Test.YtlfpepehngkehaaLeafR
import Derived.Test.YtlfpepehngkehaaMaths
namespace Go.Proofs.Ytlfpepehngkehaa
set_option linter.unusedSimpArgs false
set_option linter.unusedVariables false
open Go.RowKit

theorem smallB (n : Nat) (w : World) (h : n < 256) : Calls Try.prog 86 #[.int .u8 n] w fun e w' => e = .returned (.bool (smB n)) ∧ w' = w := by
  refine (small_any n w (by omega) (by omega)).mono ?_
  rintro e w' ⟨rfl, rfl⟩
  exact ⟨ret_bool (by unfold smB; rw [decide_eq_decide]; omega), rfl⟩
theorem capitalB (n : Nat) (w : World) (h : n < 256) : Calls Try.prog 87 #[.int .u8 n] w fun e w' => e = .returned (.bool (cpB n)) ∧ w' = w := by
  refine (capital_any n w (by omega) (by omega)).mono ?_
  rintro e w' ⟨rfl, rfl⟩
  exact ⟨ret_bool (by unfold cpB; rw [decide_eq_decide]; omega), rfl⟩
theorem digitB (n : Nat) (w : World) (h : n < 256) : Calls Try.prog 89 #[.int .u8 n] w fun e w' => e = .returned (.bool (dgB n)) ∧ w' = w := by
  refine (digit_any n w (by omega) (by omega)).mono ?_
  rintro e w' ⟨rfl, rfl⟩
  exact ⟨ret_bool (by unfold dgB; rw [decide_eq_decide]; omega), rfl⟩

def stV (f : St) : Value := .agg #[.int .i64 f.st, .int .i64 f.n, .bool f.sm, .int .i64 f.cost]

set_option maxHeartbeats 4000000 in
theorem letters_any (f : St) (c : Nat) (w : World) (hc : c < 256) (hn : f.n ≤ 100) :
    Calls Try.prog 88 #[stV f, .int .u8 c] w fun e w' => e = .returned (.tuple #[stV (lts f c).1, .bool (lts f c).2]) ∧ Below w.heap.size w w' := by
  obtain ⟨st, n, sm, cost⟩ := f
  have hn' : n ≤ 100 := hn
  clear hn
  rcases kinds c with h | h | h | h | h | h
  all_goals obtain ⟨t1, t2, t3, t4, t5⟩ := h
  all_goals cases sm
  all_goals by_cases h12 : n < 12
  all_goals
    generalize hl : lts _ c = r
    simp [lts, t1, t2, t3, t4, t5, h12] at hl
    subst hl
    simp only [stV]
    go_enter Try.func88, Try.ntmps88
    go_wp2_with (first | (go_at_call 86; refine (smallB _ _ hc).mono ?_; rintro e w' ⟨rfl, rfl⟩) | (go_at_call 87; refine (capitalB _ _ hc).mono ?_; rintro e w' ⟨rfl, rfl⟩))
    refine bodyPost_ret (v := .tuple #[.agg #[.int .i64 _, .int .i64 _, .bool _, .int .i64 _], .bool _]) (by simp [results, Try.results88, go_sem]; first | done | rfl | exact ⟨rfl, rfl, rfl⟩) rfl ⟨rfl, ?_⟩
    repeat (first | exact Below.refl _ _ | refine Below.alloc ?_ (by simp) _ | refine Below.setCell ?_ (by simp) _)

end Go.Proofs.Ytlfpepehngkehaa
