/-
  Plain mathematics: what Build makes is a dictionary.
-/
import Derived.Test.YtlfpepehngkehaaMathF
import Derived.Test.YtlfpepehngkehaaMathK
namespace Go.Proofs.Ytlfpepehngkehaa
set_option linter.unusedSimpArgs false
set_option linter.unusedVariables false

theorem GoodEntry.word {s : ByteArray} {k p : Nat} {x : Ent} (h : GoodEntry s k x p) : IsWord x.word := by
  obtain ⟨n, hw, h1, h2, h3, _⟩ := h
  rcases hw with ⟨h, _⟩ | ⟨_, a2, a3, a4, a5, _⟩
  · omega
  · have hz : (s.extract k (k + n)).size = n := by simp; omega
    have hb : ∀ j, j < n → bt (s.extract k (k + n)) j = bt s (k + j) := fun j hj => bt_extract s k (k + n) j (by omega) (by omega)
    rw [h3]
    refine ⟨by omega, by omega, Nat.le_refl _, ?_, fun j b c => ?_⟩
    · rw [hb 0 (by omega)]; exact a4
    · rw [hz] at c
      rw [hb 0 (by omega), hb j c]
      exact a5 (k + j) (by omega) (by omega)

theorem chain_word {s : ByteArray} {q : Nat} : ∀ {E : List Ent} {k : Nat}, Chain s k E q → ∀ x ∈ E, IsWord x.word
  | [], _, _, x, hx => by cases hx
  | y :: E, k, h, x, hx => by
    obtain ⟨p, hg, _, _, hc⟩ := h
    rcases List.mem_cons.1 hx with rfl | hx
    · exact hg.word
    · exact chain_word hc x hx

theorem OkList.words {s : ByteArray} {E : List Ent} (h : OkList s E) : ∀ x ∈ E, IsWord x.word ∧ x.cost ≤ 1000 := by
  obtain ⟨_, hg, hc, _⟩ := h
  intro x hx
  refine ⟨?_, ?_⟩
  · rcases hg with ⟨rfl, _⟩ | ⟨E', y, q, rfl, hch, hgy⟩
    · cases hx
    · rcases List.mem_append.1 hx with hx | hx
      · exact chain_word hch x hx
      · rcases List.mem_cons.1 hx with rfl | hx
        · exact hgy.word
        · cases hx
  · obtain ⟨j, hj, rfl⟩ := List.mem_iff_getElem.1 hx
    exact hc j hj

theorem OkUpTo.words {ss : List ByteArray} : ∀ {i : Nat} {E : List Ent}, OkUpTo ss i E → ∀ x ∈ E, IsWord x.word ∧ x.cost ≤ 1000
  | 0, E, h, x, hx => by cases h; cases hx
  | i + 1, E, h, x, hx => by
    obtain ⟨E1, E2, h1, ⟨_, h2⟩, rfl⟩ := h
    rcases List.mem_append.1 hx with hx | hx
    · exact h1.words x hx
    · exact h2.words x hx

theorem rep_good {D : Dic} {E : List Ent} {ss : List ByteArray} {n : Nat} (h : OkUpTo ss n E) (hr : Rep D E) (hl : D.length ≤ 150) : GoodDic D := by
  refine ⟨hl, hr.1, fun p hp => ?_⟩
  obtain ⟨x, hx, e1, _, e2⟩ := eff_mem ((hr.2 p.1 p.2).1 hp)
  have := h.words x hx
  rw [← e1, ← e2]
  exact this

theorem BuildYes.good {ss : List ByteArray} {D : Dic} (h : BuildYes ss D) : GoodDic D := by
  obtain ⟨_, E, h1, h2, h3⟩ := h
  exact rep_good h1 h2 h3

end Go.Proofs.Ytlfpepehngkehaa
