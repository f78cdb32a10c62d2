/-
  Worlds: rows of texts and of numbers; what has not turned.
-/
import Derived.Test.YtlfpepehngkehabDoorKeptW
namespace Go.Proofs.YtlfpepehngkehabDoor
set_option linter.unusedSimpArgs false
set_option linter.unusedVariables false
open Go.RowKit

def strCells (L : List ByteArray) : List Value := L.map .string

def intCells (L : List Nat) : List Value := L.map fun c : Nat => .int .i64 (c : Int)

theorem strCells_length (L : List ByteArray) : (strCells L).length = L.length := by simp [strCells]

theorem intCells_length (L : List Nat) : (intCells L).length = L.length := by simp [intCells]

theorem strCells_append (L M : List ByteArray) : strCells (L ++ M) = strCells L ++ strCells M := by simp [strCells]

theorem intCells_append (L M : List Nat) : intCells (L ++ M) = intCells L ++ intCells M := by simp [intCells]

theorem own_str {w : World} {B g cap n : Nat} {t : TypeId} {L : List ByteArray} (h : w.ownsRow B t 1 (.slice (some ⟨g, 0, none⟩) n cap) n (strCells L)) {k : Nat} (hn : n = L.length) (hk : k < L.length) :
    w.cell? ⟨g, k, none⟩ = some (.string L[k]) := by
  rw [h.cellAt k (by omega)]; simp [strCells, List.getElem?_eq_getElem hk]

theorem own_int {w : World} {B g cap n : Nat} {t : TypeId} {L : List Nat} (h : w.ownsRow B t 1 (.slice (some ⟨g, 0, none⟩) n cap) n (intCells L)) {k : Nat} (hn : n = L.length) (hk : k < L.length) :
    w.cell? ⟨g, k, none⟩ = some (.int .i64 L[k]) := by
  rw [h.cellAt k (by omega)]; simp [intCells, List.getElem?_eq_getElem hk]

/-- two slices of the call's own do not lie in one row. -/
def Apart (a b : Value) : Prop := ∀ k, a.ownBlock = some k → b.ownBlock ≠ some k

theorem Apart.symm {a b : Value} (h : Apart a b) : Apart b a := fun k hk e => h k e hk

theorem row_shape {w : World} {B : Nat} {t : TypeId} {sz n : Nat} {v : Value} {xs : List Value} (h : w.ownsRow B t sz v n xs) (hn : n ≠ 0) : ∃ g cap, v = .slice (some ⟨g, 0, none⟩) n cap ∧ B ≤ g ∧ n ≤ cap ∧ cap ≤ maxLen ∧ g < w.heap.size := by
  obtain ⟨_, h2⟩ := h
  rcases h2 with ⟨_, c⟩ | ⟨g, cap, cur, a, c, d, e, f, _⟩
  · exact absurd c hn
  · exact ⟨g, cap, a, c, e, f, Array.getElem?_eq_some_iff.1 d |>.1⟩

theorem row_form {w : World} {B : Nat} {t : TypeId} {sz n : Nat} {v : Value} {xs : List Value} (h : w.ownsRow B t sz v n xs) : ∃ a cap, v = .slice a n cap ∧ (n ≠ 0 → ∃ g, a = some ⟨g, 0, none⟩) := by
  obtain ⟨_, h2⟩ := h
  rcases h2 with ⟨a, c⟩ | ⟨g, cap, cur, a, _⟩
  · subst c; exact ⟨none, 0, a, fun h => absurd rfl h⟩
  · exact ⟨_, cap, a, fun _ => ⟨g, rfl⟩⟩

/-- nothing old has turned. -/
def Same (w w' : World) : Prop := Kept w w' fun _ => False

theorem Same.refl (w : World) : Same w w := Kept.refl _ _

theorem Same.row {w w' : World} {base : Nat} {e : TypeId} {size : Nat} {v : Value} {n : Nat} {xs : List Value} (hk : Same w w') (h : w.ownsRow base e size v n xs) : w'.ownsRow base e size v n xs := Kept.row h hk fun _ _ e => e

theorem Same.below {w w' a : World} {B : Nat} (hk : Same w w') (h : Below B a w) (hB : B ≤ w.heap.size) : Below B a w' := h.trans (Kept.below hk hB fun _ e => e.elim)

theorem Same.cell {w w' : World} {b o : Nat} {v : Value} (hk : Same w w') (h : w.cell? ⟨b, o, none⟩ = some v) : w'.cell? ⟨b, o, none⟩ = some v := (Kept.cell hk (p := ⟨b, o, none⟩) (cell_lt h) id).trans h

theorem row_base {w : World} {B B' : Nat} {t : TypeId} {sz n : Nat} {v : Value} {xs : List Value} (h : w.ownsRow B t sz v n xs) (hB : B' ≤ B) : w.ownsRow B' t sz v n xs := by
  obtain ⟨h1, h2⟩ := h
  refine ⟨h1, ?_⟩
  rcases h2 with h | ⟨g, cap, cur, a, c, d⟩
  · exact .inl h
  · exact .inr ⟨g, cap, cur, a, by omega, d⟩

end Go.Proofs.YtlfpepehngkehabDoor
