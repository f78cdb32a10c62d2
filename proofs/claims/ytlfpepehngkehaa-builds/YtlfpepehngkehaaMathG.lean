/-
  Plain mathematics: the reference takes a list apart.
-/
import Derived.Test.YtlfpepehngkehaaMathF
namespace Go.Proofs.Ytlfpepehngkehaa
set_option linter.unusedSimpArgs false
set_option linter.unusedVariables false

/-- the entries from q on, up to the end. -/
def Rest (s : ByteArray) : Nat → List Ent → Prop
  | _, [] => False
  | q, x :: E => ∃ p, GoodEntry s q x p ∧ ((E = [] ∧ p = s.size) ∨ (E ≠ [] ∧ p < s.size ∧ bt s p = 44 ∧ Rest s (p + 1) E))

theorem rest_of_chain {s : ByteArray} {x : Ent} {q : Nat} (hg : GoodEntry s q x s.size) : ∀ {E : List Ent} {k : Nat}, Chain s k E q → Rest s k (E ++ [x])
  | [], k, h => by cases h; exact ⟨s.size, hg, .inl ⟨rfl, rfl⟩⟩
  | y :: E, k, h => by
    obtain ⟨p, h1, h2, h3, h4⟩ := h
    exact ⟨p, h1, .inr ⟨by simp, h2, h3, rest_of_chain hg h4⟩⟩

theorem rest_of_good {s : ByteArray} {E : List Ent} (h : GoodList s E) : (E = [] ∧ s.size = 0) ∨ Rest s 0 E := by
  rcases h with h | ⟨E', x, q, rfl, hc, hg⟩
  · exact .inl h
  · exact .inr (rest_of_chain hg hc)

theorem word_byte {s : ByteArray} {k n j : Nat} (h : WordAt s k n) (h1 : k ≤ j) (h2 : j < k + n) : srt (bt s j) = 1 ∨ srt (bt s j) = 2 ∨ srt (bt s j) = 4 := by
  rcases h with ⟨rfl, _⟩ | ⟨_, _, _, hl, hall, _⟩
  · omega
  · by_cases e : j = k
    · subst e; rcases hl with a | a
      · exact .inl a
      · exact .inr (.inl a)
    · rcases hall j (by omega) h2 with a | a
      · rw [a]; rcases hl with a | a
        · exact .inl a
        · exact .inr (.inl a)
      · exact .inr (.inr a)

theorem word_plain {s : ByteArray} {k n j : Nat} (h : WordAt s k n) (h1 : k ≤ j) (h2 : j < k + n) : bt s j ≠ 44 ∧ bt s j ≠ 61 ∧ bt s j ≠ 33 := by
  have := word_byte h h1 h2
  simp only [srt_1, srt_2, srt_4] at this
  omega

theorem good_nocomma {s : ByteArray} {q p i : Nat} {x : Ent} (h : GoodEntry s q x p) (h1 : q ≤ i) (h2 : i < p) : bt s i ≠ 44 := by
  obtain ⟨n, hw, hn, hlt, _, hx⟩ := h
  by_cases hi : i < q + n
  · exact (word_plain hw h1 hi).1
  · rcases hx with ⟨h33, _, _, _, rfl⟩ | ⟨h61, m, _, hd, _, _, _, rfl⟩
    · have : i = q + n := by omega
      rw [this]; omega
    · by_cases e : i = q + n
      · rw [e]; omega
      · have := hd.2.2.1 i (by omega) (by omega)
        rw [srt_3] at this
        omega

/-- an entry's cost, as the reference keeps it. -/
def refC (x : Ent) : Int := if x.inn = true then (x.cost : Int) else -1

end Go.Proofs.Ytlfpepehngkehaa
