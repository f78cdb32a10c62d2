/-
  Worlds: a form in its block.
-/
import Derived.Test.YtlfpepehngkehaaMaths
import Derived.WalkKit
namespace Go.Proofs.Ytlfpepehngkehaa
set_option linter.unusedSimpArgs false
set_option linter.unusedVariables false
open Go.RowKit

theorem cs_other {w : World} {a b : Addr} (v : Value) (h : a ≠ b) : (w.setCell a v).cell? b = w.cell? b := by
  apply World.cell?_setCell_other; exact h
theorem cs_same {w : World} {a : Addr} {u : Value} (v : Value) (h : w.cell? a = some u) : (w.setCell a v).cell? a = some v := by
  apply World.cell?_setCell_same; exact h

/-- a form lies in a block of four cells that may be written. -/
def FormAt (w : World) (b : Nat) (f : St) : Prop :=
  (w.cell? ⟨b, 0, none⟩ = some (.int .i64 f.st) ∧ w.cell? ⟨b, 1, none⟩ = some (.int .i64 f.n) ∧ w.cell? ⟨b, 2, none⟩ = some (.bool f.sm) ∧ w.cell? ⟨b, 3, none⟩ = some (.int .i64 f.cost)) ∧ ∀ o, w.frozen? ⟨b, o, none⟩ = false

theorem FormAt.below {w w1 : World} {b B : Nat} {f : St} (h : FormAt w b f) (hb : Below B w w1) (hB : b < B) : FormAt w1 b f := by
  obtain ⟨⟨h0, h1, h2, h3⟩, h4⟩ := h
  refine ⟨⟨?_, ?_, ?_, ?_⟩, fun o => ?_⟩
  · rw [hb.cell (p := ⟨b, 0, none⟩) hB]; exact h0
  · rw [hb.cell (p := ⟨b, 1, none⟩) hB]; exact h1
  · rw [hb.cell (p := ⟨b, 2, none⟩) hB]; exact h2
  · rw [hb.cell (p := ⟨b, 3, none⟩) hB]; exact h3
  · rw [hb.frozen (p := ⟨b, o, none⟩) hB]; exact h4 o

theorem FormAt.new (w : World) (f : St) (t : TypeId) : FormAt (w.alloc (.cells #[.int .i64 f.st, .int .i64 f.n, .bool f.sm, .int .i64 f.cost] t)) w.heap.size f := by
  refine ⟨⟨?_, ?_, ?_, ?_⟩, fun o => ?_⟩
  · rw [World.cell?_alloc_at _ _ _ _ rfl]; rfl
  · rw [World.cell?_alloc_at _ _ _ _ rfl]; rfl
  · rw [World.cell?_alloc_at _ _ _ _ rfl]; rfl
  · rw [World.cell?_alloc_at _ _ _ _ rfl]; rfl
  · simp

theorem FormAt.set {w : World} {b : Nat} {f : St} (h : FormAt w b f) (r : St) :
    FormAt ((((w.setCell ⟨b, 0, none⟩ (.int .i64 r.st)).setCell ⟨b, 1, none⟩ (.int .i64 r.n)).setCell ⟨b, 2, none⟩ (.bool r.sm)).setCell ⟨b, 3, none⟩ (.int .i64 r.cost)) b r := by
  obtain ⟨⟨h0, h1, h2, h3⟩, h4⟩ := h
  have n01 : (⟨b, 0, none⟩ : Addr) ≠ ⟨b, 1, none⟩ := by simp
  have n02 : (⟨b, 0, none⟩ : Addr) ≠ ⟨b, 2, none⟩ := by simp
  have n03 : (⟨b, 0, none⟩ : Addr) ≠ ⟨b, 3, none⟩ := by simp
  have n12 : (⟨b, 1, none⟩ : Addr) ≠ ⟨b, 2, none⟩ := by simp
  have n13 : (⟨b, 1, none⟩ : Addr) ≠ ⟨b, 3, none⟩ := by simp
  have n23 : (⟨b, 2, none⟩ : Addr) ≠ ⟨b, 3, none⟩ := by simp
  refine ⟨⟨?_, ?_, ?_, ?_⟩, fun o => ?_⟩
  · rw [cs_other _ n03.symm, cs_other _ n02.symm, cs_other _ n01.symm, cs_same _ h0]
  · rw [cs_other _ n13.symm, cs_other _ n12.symm, cs_same _ (by rw [cs_other _ n01]; exact h1)]
  · rw [cs_other _ n23.symm, cs_same _ (by rw [cs_other _ n12, cs_other _ n02]; exact h2)]
  · rw [cs_same _ (by rw [cs_other _ n23, cs_other _ n13, cs_other _ n03]; exact h3)]
  · simp [h4]

theorem below_set4 {B b : Nat} {a w : World} (h : Below B a w) (hb : B ≤ b) (x y z u : Value) : Below B a ((((w.setCell ⟨b, 0, none⟩ x).setCell ⟨b, 1, none⟩ y).setCell ⟨b, 2, none⟩ z).setCell ⟨b, 3, none⟩ u) :=
  (((h.setCell hb _).setCell hb _).setCell hb _).setCell hb _

def Met (w wx : World) (b : Nat) (r f : St) : Prop := w.heap.size < b ∧ Below w.heap.size w wx ∧ w.heap.size < wx.heap.size ∧ FormAt wx b r ∧ FormAt wx w.heap.size f

theorem met_a {w wr w1 : World} {r f : St} {t : TypeId} (hbel : Below w.heap.size w wr) (hsz : w.heap.size < wr.heap.size) (hf : FormAt wr w.heap.size f) (hb1 : Below wr.heap.size wr w1) :
    Met w (w1.alloc (.cells #[.int .i64 r.st, .int .i64 r.n, .bool r.sm, .int .i64 r.cost] t)) w1.heap.size r f := by
  have hz := hb1.size
  refine ⟨by omega, (hbel.trans (hb1.mono (by omega))).alloc (by omega) _, by simp; omega, FormAt.new _ r _, FormAt.below hf (hb1.alloc (by omega) _) hsz⟩

theorem met_b {w wr w1 : World} {r f : St} {t : TypeId} (hbel : Below w.heap.size w wr) (hsz : w.heap.size < wr.heap.size) (hf : FormAt wr w.heap.size f)
    (hb1 : Below (wr.heap.size + 1) (wr.alloc (.cells #[.int .i64 0, .int .i64 0, .bool false, .int .i64 0] t)) w1) :
    Met w ((((w1.setCell ⟨wr.heap.size, 0, none⟩ (.int .i64 r.st)).setCell ⟨wr.heap.size, 1, none⟩ (.int .i64 r.n)).setCell ⟨wr.heap.size, 2, none⟩ (.bool r.sm)).setCell ⟨wr.heap.size, 3, none⟩ (.int .i64 r.cost)) wr.heap.size r f := by
  have hz := hb1.size
  simp at hz
  have h0 : FormAt w1 wr.heap.size ⟨0, 0, false, 0⟩ := FormAt.below (FormAt.new wr ⟨0, 0, false, 0⟩ t) hb1 (by omega)
  have h1 : Below wr.heap.size wr w1 := ((Below.refl _ _).alloc (Nat.le_refl _) _).trans (hb1.mono (by omega))
  have h2 := below_set4 h1 (Nat.le_refl _) (.int .i64 r.st) (.int .i64 r.n) (.bool r.sm) (.int .i64 r.cost)
  exact ⟨hsz, hbel.trans (h2.mono (by omega)), by have := h2.size; omega, h0.set r, FormAt.below hf h2 hsz⟩

end Go.Proofs.Ytlfpepehngkehaa
