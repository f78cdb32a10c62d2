/-
  Plain mathematics: lists of lists; what Build answers.
-/
import Derived.Test.YtlfpepehngkehaaMathC
import Derived.Test.YtlfpepehngkehaaMathE
namespace Go.Proofs.Ytlfpepehngkehaa
set_option linter.unusedSimpArgs false
set_option linter.unusedVariables false

def OkList (s : ByteArray) (E : List Ent) : Prop := s.size ≤ 2000 ∧ GoodList s E ∧ (∀ j (hj : j < E.length), E[j].cost ≤ 1000) ∧ E.length ≤ s.size

/-- the entries of the first i lists, all of which are such. -/
def OkUpTo (ss : List ByteArray) : Nat → List Ent → Prop
  | 0, E => E = []
  | i + 1, E => ∃ E1 E2, OkUpTo ss i E1 ∧ (∃ h : i < ss.length, OkList ss[i] E2) ∧ E = E1 ++ E2

theorem OkList.res {s : ByteArray} {E : List Ent} (h : OkList s E) : RefRes s 0 0 := goodList_ok h.1 h.2.1 h.2.2.1

def WordOk (x : Ent) : Prop := 1 ≤ x.word.size ∧ x.word.size ≤ 12 ∧ x.cost ≤ 9999

theorem GoodEntry.ok {s : ByteArray} {k p : Nat} {x : Ent} (h : GoodEntry s k x p) : WordOk x := by
  have hc := h.le.2.2.1
  obtain ⟨n, hw, h1, h2, h3, _⟩ := h
  have := hw.le
  refine ⟨?_, ?_, hc⟩ <;> rw [h3] <;> simp <;> omega

theorem chain_ok {s : ByteArray} {q : Nat} : ∀ {E : List Ent} {k : Nat}, Chain s k E q → ∀ x ∈ E, WordOk x
  | [], _, _, x, hx => by cases hx
  | y :: E, k, h, x, hx => by
    obtain ⟨p, hg, _, _, hc⟩ := h
    rcases List.mem_cons.1 hx with rfl | hx
    · exact hg.ok
    · exact chain_ok hc x hx

theorem goodList_ok' {s : ByteArray} {E : List Ent} (h : GoodList s E) : ∀ x ∈ E, WordOk x := by
  rcases h with ⟨rfl, _⟩ | ⟨E', y, q, rfl, hc, hg⟩
  · intro x hx; cases hx
  · intro x hx
    rcases List.mem_append.1 hx with hx | hx
    · exact chain_ok hc x hx
    · rcases List.mem_cons.1 hx with rfl | hx
      · exact hg.ok
      · cases hx

theorem OkUpTo.ok {ss : List ByteArray} : ∀ {i : Nat} {E : List Ent}, OkUpTo ss i E → ∀ x ∈ E, WordOk x
  | 0, E, h, x, hx => by cases h; cases hx
  | i + 1, E, h, x, hx => by
    obtain ⟨E1, E2, h1, ⟨_, h2⟩, rfl⟩ := h
    rcases List.mem_append.1 hx with hx | hx
    · exact h1.ok x hx
    · exact goodList_ok' h2.2.1 x hx

theorem OkUpTo.length {ss : List ByteArray} : ∀ {i : Nat} {E : List Ent}, OkUpTo ss i E → E.length ≤ i * 2000
  | 0, E, h => by cases h; simp
  | i + 1, E, h => by
    obtain ⟨E1, E2, h1, ⟨_, h2⟩, rfl⟩ := h
    have := h1.length
    have := h2.2.2.2
    have := h2.1
    simp; omega

/-- every word of a dictionary of entries is one of theirs. -/
theorem eff_mem {E : List Ent} {w : ByteArray} {c : Nat} (h : eff E w = some c) : ∃ x ∈ E, x.word = w ∧ x.inn = true ∧ x.cost = c := by
  suffices ∀ (S : List Ent) (o : Option Nat), S.foldl (fun o x => stepE x w o) o = some c → o = some c ∨ ∃ x ∈ S, x.word = w ∧ x.inn = true ∧ x.cost = c by
    rcases this E none h with e | e
    · cases e
    · exact e
  intro S
  induction S with
  | nil => intro o h; exact .inl h
  | cons y S ih =>
    intro o h
    rcases ih _ h with e | ⟨x, hx, e⟩
    · have e : stepE y w o = some c := e
      unfold stepE at e
      split at e
      · rename_i hw
        split at e
        · rename_i hi
          cases e
          exact .inr ⟨y, List.mem_cons_self, hw, hi, rfl⟩
        · cases e
      · exact .inl e
    · exact .inr ⟨x, List.mem_cons_of_mem _ hx, e⟩

theorem Rep.words {D : Dic} {E : List Ent} (h : Rep D E) (hE : ∀ x ∈ E, WordOk x) : ∀ p ∈ D, 1 ≤ p.1.size ∧ p.1.size ≤ 12 := by
  intro p hp
  obtain ⟨x, hx, e, _, _⟩ := eff_mem ((h.2 p.1 p.2).1 hp)
  have := hE x hx
  rw [← e]
  exact ⟨this.1, this.2.1⟩

/-- what both sides' Build must answer. -/
def BuildNo (ss : List ByteArray) (err : Int) : Prop :=
  (8 < ss.length ∧ err = 4) ∨
  (ss.length ≤ 8 ∧ ∃ (i : Nat) (E : List Ent) (p : Int), OkUpTo ss i E ∧ (∃ h : i < ss.length, RefRes ss[i] err p) ∧ err ≠ 0) ∨
  (ss.length ≤ 8 ∧ ∃ (E : List Ent) (D : Dic), OkUpTo ss ss.length E ∧ Rep D E ∧ 150 < D.length ∧ err = 4)

def BuildYes (ss : List ByteArray) (D : Dic) : Prop := ss.length ≤ 8 ∧ ∃ E, OkUpTo ss ss.length E ∧ Rep D E ∧ D.length ≤ 150

end Go.Proofs.Ytlfpepehngkehaa
