/-
  Worlds: rows of words and costs that the call owns.
-/
import Derived.Test.YtlfpepehngkehabDoorMaths
import Derived.WalkKit
namespace Go.Proofs.YtlfpepehngkehabDoor
set_option linter.unusedSimpArgs false
set_option linter.unusedVariables false
open Go.RowKit

def pairCells (D : Dic) : List Value := D.flatMap fun p => [.string p.1, .int .i64 p.2]

theorem pairCells_length (D : Dic) : (pairCells D).length = D.length * 2 := by
  induction D with
  | nil => rfl
  | cons x E ih => simp only [pairCells, List.flatMap_cons, List.length_append] at ih ⊢; rw [ih]; simp; omega

theorem pairCells_cons (p : ByteArray × Nat) (D : Dic) : pairCells (p :: D) = .string p.1 :: .int .i64 p.2 :: pairCells D := by simp [pairCells]
theorem pairCells_append (D E : Dic) : pairCells (D ++ E) = pairCells D ++ pairCells E := by simp [pairCells]

theorem pairCells_at (D : Dic) (k : Nat) (h : k < D.length) : (pairCells D)[k * 2]? = some (.string D[k].1) ∧ (pairCells D)[k * 2 + 1]? = some (.int .i64 D[k].2) := by
  induction D generalizing k with
  | nil => simp at h
  | cons x E ih =>
    rw [pairCells_cons]
    cases k with
    | zero => simp
    | succ k =>
      have := ih k (by simpa using h)
      have e : (k + 1) * 2 = k * 2 + 1 + 1 := by omega
      rw [e]
      simpa using this

/-- the set that lies at b: its slice, its words and costs. -/
structure SetAt (w : World) (t : TypeId) (b : Nat) (v : Value) (D : Dic) : Prop where
  cell : w.cell? ⟨b, 0, none⟩ = some v
  frz : w.frozen? ⟨b, 0, none⟩ = false
  own : w.ownsRow 0 t 2 v D.length (pairCells D)
  ne : ∀ k, v.ownBlock = some k → k ≠ b

theorem own_pair {w : World} {B g cap n : Nat} {t : TypeId} {D : Dic} (h : w.ownsRow B t 2 (.slice (some ⟨g, 0, none⟩) n cap) n (pairCells D)) {k : Nat} (hn : n = D.length) (hk : k < D.length) :
    w.cell? ⟨g, k * 2, none⟩ = some (.string D[k].1) ∧ w.cell? ⟨g, k * 2 + 1, none⟩ = some (.int .i64 D[k].2) := by
  obtain ⟨h0, h1⟩ := pairCells_at D k hk
  refine ⟨?_, ?_⟩
  · rw [h.cellAt (k * 2) (by omega), h0]
  · rw [h.cellAt (k * 2 + 1) (by omega), h1]

theorem SetAt.shape {w : World} {t : TypeId} {b : Nat} {v : Value} {D : Dic} (h : SetAt w t b v D) : (v = .slice none 0 0 ∧ D = []) ∨ ∃ g cap, v = .slice (some ⟨g, 0, none⟩) D.length cap ∧ b ≠ g ∧ D.length ≤ cap ∧ cap ≤ maxLen ∧ g < w.heap.size := by
  have h' := h.own
  obtain ⟨_, h2⟩ := h.own
  have hne := h.ne
  rcases h2 with ⟨a, c⟩ | ⟨g, cap, cur, a, c, d, e, f, _⟩
  · exact .inl ⟨a, List.eq_nil_of_length_eq_zero c⟩
  · exact .inr ⟨g, cap, a, fun e => by subst e; exact hne b (by rw [a]; rfl) rfl, e, f, Array.getElem?_eq_some_iff.1 d |>.1⟩

end Go.Proofs.YtlfpepehngkehabDoor
