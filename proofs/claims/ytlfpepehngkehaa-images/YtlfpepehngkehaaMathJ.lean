/-
  Plain mathematics: what can be read of a text that may be an image.
-/
import Derived.Test.YtlfpepehngkehaaMathI
namespace Go.Proofs.Ytlfpepehngkehaa
set_option linter.unusedSimpArgs false
set_option linter.unusedVariables false

/-- what is read from a place on: the last word that was read; how many steps at most. -/
def guessG (s : ByteArray) : Nat → Nat → ByteArray → Dic
  | 0, _, _ => []
  | f + 1, at', last =>
    if at' + 5 ≤ s.size ∧ bt s at' ≤ last.size ∧ at' + 2 + bt s (at' + 1) + 3 ≤ s.size then
      (last.extract 0 (bt s at') ++ s.extract (at' + 2) (at' + 2 + bt s (at' + 1)), bt s (at' + 2 + bt s (at' + 1)) + 256 * bt s (at' + 2 + bt s (at' + 1) + 1)) ::
        guessG s f (at' + 2 + bt s (at' + 1) + 2) (last.extract 0 (bt s at') ++ s.extract (at' + 2) (at' + 2 + bt s (at' + 1)))
    else []

def guessD (s : ByteArray) : Dic := guessG s s.size 4 ByteArray.empty

theorem guessG_stop {s : ByteArray} {f k : Nat} {last : ByteArray} (h : ¬ (k + 5 ≤ s.size ∧ bt s k ≤ last.size ∧ k + 2 + bt s (k + 1) + 3 ≤ s.size)) : guessG s f k last = [] := by
  cases f with
  | zero => rfl
  | succ f => simp only [guessG]; rw [if_neg h]

theorem guessG_step {s : ByteArray} {f k : Nat} {last : ByteArray} (hf : s.size ≤ f + k) (h1 : k + 5 ≤ s.size) (h2 : bt s k ≤ last.size) (h3 : k + 2 + bt s (k + 1) + 3 ≤ s.size) :
    ∃ f', s.size ≤ f' + (k + 2 + bt s (k + 1) + 2) ∧ guessG s f k last =
      (last.extract 0 (bt s k) ++ s.extract (k + 2) (k + 2 + bt s (k + 1)), bt s (k + 2 + bt s (k + 1)) + 256 * bt s (k + 2 + bt s (k + 1) + 1)) ::
        guessG s f' (k + 2 + bt s (k + 1) + 2) (last.extract 0 (bt s k) ++ s.extract (k + 2) (k + 2 + bt s (k + 1))) := by
  cases f with
  | zero => omega
  | succ f => exact ⟨f, by omega, by simp only [guessG]; rw [if_pos ⟨h1, h2, h3⟩]⟩

end Go.Proofs.Ytlfpepehngkehaa
