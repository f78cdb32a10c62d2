/-
  A row of bytes of the call's own.
-/
import Derived.Test.YtlfpepehngkehaaDoorKeptW
import Derived.Test.YtlfpepehngkehaaDoorRowsW
import Derived.Test.YtlfpepehngkehaaDoorSetPut
import Derived.Test.YtlfpepehngkehaaDoorMaths
import Derived.Laws.IdiomStrings
namespace Go.Proofs.YtlfpepehngkehaaDoor
set_option linter.unusedSimpArgs false
set_option linter.unusedVariables false
open Go.RowKit

/-- bytes of the call's own at g. -/
structure BytesAt (w : World) (g : Nat) (l : List UInt8) : Prop where
  cell : ∀ j (h : j < l.length), w.cell? ⟨g, j, none⟩ = some (.int .u8 (l[j].toNat : Int))
  frz : ∀ j, j < l.length → w.frozen? ⟨g, j, none⟩ = false

theorem bytes_new (W : World) (s : ByteArray) (cap : Nat) (t : TypeId) : BytesAt (W.drew.alloc (.cells (bytesRow s cap) t ((bytesRow s cap).size, (bytesRow s cap).size + 1))) W.heap.size s.toList := by
  have hz : s.size ≤ (bytesRow s cap).size := by
    have e : s.data.size = s.size := rfl
    simp [bytesRow]
  refine ⟨fun j hj => ?_, fun j hj => ?_⟩
  · have hj' : j < s.data.toList.length := by rw [← ByteArray.toList_eq]; exact hj
    have := bytesRow_at W.drew s cap t ((bytesRow s cap).size, (bytesRow s cap).size + 1) j hj'
    have ea : (⟨W.drew.heap.size, 0, none⟩ : Addr).add j = ⟨W.heap.size, j, none⟩ := by simp [Addr.add]; try (intro h; exact h.symm)
    rw [ea] at this
    rw [this]
    simp only [ByteArray.toList_eq]
  · rw [toList_length] at hj
    have := World.frozen?_alloc_mark W.drew (bytesRow s cap) t (bytesRow s cap).size ((bytesRow s cap).size + 1) j
    have e : W.drew.heap.size = W.heap.size := rfl
    rw [e] at this
    rw [this]
    simp
    omega

theorem BytesAt.set {w : World} {g : Nat} {l : List UInt8} (h : BytesAt w g l) {k : Nat} (hk : k < l.length) (u : UInt8) : BytesAt (w.setCell ⟨g, k, none⟩ (.int .u8 (u.toNat : Int))) g (l.set k u) := by
  refine ⟨fun j hj => ?_, fun j hj => ?_⟩
  · have hj' := hj
    rw [List.length_set] at hj'
    by_cases e : j = k
    · subst e
      rw [List.getElem_set_self]
      apply World.cell?_setCell_same
      exact h.cell j hj'
    · rw [World.cell?_setCell_other _ _ _ _ (by intro e2; simp only [Addr.mk.injEq] at e2; exact e e2.2.1.symm), h.cell j hj', List.getElem_set_ne (fun e2 => e e2.symm)]
  · rw [List.length_set] at hj
    simp [h.frz j hj]

theorem BytesAt.kept {w w' : World} {g : Nat} {l : List UInt8} {S : Nat → Prop} (h : BytesAt w g l) (hk : Kept w w' S) (hg : g < w.heap.size) (hS : ¬ S g) : BytesAt w' g l :=
  ⟨fun j hj => (hk.cell (p := ⟨g, j, none⟩) hg hS).trans (h.cell j hj), fun j hj => (hk.frozen (p := ⟨g, j, none⟩) hg hS).trans (h.frz j hj)⟩

theorem bytes_conv {w : World} {g : Nat} {l : List UInt8} (cap n : Nat) (h : BytesAt w g l) (hn : n = l.length) : (convert 42 9 (.slice (some ⟨g, 0, none⟩) n cap)).run Tryd.prog w = .ok (.string ⟨l.toArray⟩) w := by
  subst hn
  refine run_convert_bytes_back (P := Tryd.prog) _ 42 9 5 ⟨g, 0, none⟩ cap l Tryd.underlying42 Tryd.underlying5 Tryd.underlying9 (fun j hj => ?_)
  have e : (⟨g, 0, none⟩ : Addr).add j = ⟨g, j, none⟩ := by simp [Addr.add]; try omega
  rw [e]
  exact h.cell j hj

end Go.Proofs.YtlfpepehngkehaaDoor
