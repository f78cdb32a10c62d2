/-
  Known: the examples of Cut.
-/
import Derived.Test.YtlfpepehngkehaaKnownA
import Derived.Laws.OwnMore
namespace Go.Proofs.Ytlfpepehngkehaa
set_option linter.unusedSimpArgs false
set_option linter.unusedVariables false
open Go.RowKit

def cutL : List (ByteArray × List Nat) := [(exT0, [0, 2, 3, 5]), (exT1, [0, 2, 4]), (exT2, [0, 1, 3]), (exT3, [0, 1, 3]), (exT4, [0, 3, 7]), (exT5, [0, 2, 4]), (exT6, [0, 2, 4, 6]), (exT7, [0, 2, 4, 6, 7, 8, 10]), (exT8, [0])]

theorem cutL_cut (hD : GoodDic exD) (k : Nat) (h : k < cutL.length) : CutTo exD cutL[k].1 cutL[k].1.size cutL[k].2 := by
  match k, h with
  | 0, _ => exact cutB_cut hD .zero exT0_cut
  | 1, _ => exact cutB_cut hD .zero exT1_cut
  | 2, _ => exact cutB_cut hD .zero exT2_cut
  | 3, _ => exact cutB_cut hD .zero exT3_cut
  | 4, _ => exact cutB_cut hD .zero exT4_cut
  | 5, _ => exact cutB_cut hD .zero exT5_cut
  | 6, _ => exact cutB_cut hD .zero exT6_cut
  | 7, _ => exact cutB_cut hD .zero exT7_cut
  | 8, _ => exact cutB_cut hD .zero exT8_cut

theorem cutL_all : cutL.all (fun p => decide (p.1.size ≤ 500) && decide (p.2.length ≤ 1000)) = true := by kernel_rfl
theorem cutL_small (k : Nat) (h : k < cutL.length) : cutL[k].1.size ≤ 500 ∧ cutL[k].2.length ≤ 1000 := by
  have := List.all_eq_true.1 cutL_all _ (List.getElem_mem h)
  simpa using this

/-- rows of numbers, one behind the other. -/
def layRows (t : TypeId) : World → List (List Nat) → World
  | w, [] => w
  | w, L :: Ls => layRows t (w.alloc (.cells (intCells L).toArray t)) Ls

theorem layRows_size (t : TypeId) : ∀ (Ls : List (List Nat)) (w : World), (layRows t w Ls).heap.size = w.heap.size + Ls.length
  | [], w => rfl
  | L :: Ls, w => by simp only [layRows, List.length_cons]; rw [layRows_size t Ls]; simp; omega

theorem layRows_same (t : TypeId) : ∀ (Ls : List (List Nat)) (w : World), Same w (layRows t w Ls)
  | [], w => Same.refl w
  | L :: Ls, w => Kept.trans ((Same.refl w).alloc _) (layRows_same t Ls _) (fun _ e => e.elim)

theorem layRows_row (t : TypeId) : ∀ (Ls : List (List Nat)) (w : World) (k : Nat) (h : k < Ls.length), Ls[k].length ≤ 1000 → (layRows t w Ls).ownsRow w.heap.size t 1 (.slice (some ⟨w.heap.size + k, 0, none⟩) Ls[k].length Ls[k].length) Ls[k].length (intCells Ls[k])
  | [], _, _, h, _ => by simp at h
  | L :: Ls, w, 0, _, hl => by
    refine (layRows_same t Ls _).row ?_
    have := World.ownsRow_lit (base := w.heap.size) (e := t) (size := 1) w (intCells L).toArray L.length (Nat.le_refl _) (by have : L.length ≤ 1000 := hl; unfold maxLen; omega) (by simp [intCells])
    simpa using this
  | L :: Ls, w, k + 1, h, hl => by
    have := layRows_row t Ls (w.alloc (.cells (intCells L).toArray t)) k (by simpa using h) hl
    have e : (w.alloc (.cells (intCells L).toArray t)).heap.size = w.heap.size + 1 := by simp
    rw [e] at this
    have e2 : w.heap.size + 1 + k = w.heap.size + (k + 1) := by omega
    rw [e2] at this
    exact row_base this (by omega)

def cutCells (n : Nat) : Array Value :=
  #[.string exT0, .slice (some ⟨n, 0, none⟩) 4 4, .string exT1, .slice (some ⟨n + 1, 0, none⟩) 3 3, .string exT2, .slice (some ⟨n + 2, 0, none⟩) 3 3, .string exT3, .slice (some ⟨n + 3, 0, none⟩) 3 3, .string exT4, .slice (some ⟨n + 4, 0, none⟩) 3 3,
    .string exT5, .slice (some ⟨n + 5, 0, none⟩) 3 3, .string exT6, .slice (some ⟨n + 6, 0, none⟩) 4 4, .string exT7, .slice (some ⟨n + 7, 0, none⟩) 7 7, .string exT8, .slice (some ⟨n + 8, 0, none⟩) 1 1]

def cutsW (ti tp : TypeId) (w : World) : World := (layRows ti w (cutL.map (·.2))).alloc (.cells (cutCells w.heap.size) tp)

set_option maxHeartbeats 2000000 in
set_option maxRecDepth 20000 in
theorem cuts_any' (w : World) : Calls Try.prog 20 #[] w fun e w' => e = .returned (.slice (some ⟨w.heap.size + 9, 0, none⟩) 9 9) ∧ w' = cutsW 3 62 w := by
  go_enter Try.func20, Try.ntmps20
  go_wp2
  go_ret
  exact ⟨rfl, rfl⟩

theorem cutCells_at (n k : Nat) (h : k < cutL.length) : (cutCells n)[k * 2]? = some (.string cutL[k].1) ∧ (cutCells n)[k * 2 + 1]? = some (.slice (some ⟨n + k, 0, none⟩) cutL[k].2.length cutL[k].2.length) := by
  match k, h with
  | 0, _ => exact ⟨rfl, rfl⟩
  | 1, _ => exact ⟨rfl, rfl⟩
  | 2, _ => exact ⟨rfl, rfl⟩
  | 3, _ => exact ⟨rfl, rfl⟩
  | 4, _ => exact ⟨rfl, rfl⟩
  | 5, _ => exact ⟨rfl, rfl⟩
  | 6, _ => exact ⟨rfl, rfl⟩
  | 7, _ => exact ⟨rfl, rfl⟩
  | 8, _ => exact ⟨rfl, rfl⟩

theorem cuts_at (ti tp : TypeId) (w : World) (k : Nat) (h : k < cutL.length) : (cutsW ti tp w).cell? ⟨w.heap.size + 9, k * 2, none⟩ = some (.string cutL[k].1) ∧
    (cutsW ti tp w).cell? ⟨w.heap.size + 9, k * 2 + 1, none⟩ = some (.slice (some ⟨w.heap.size + k, 0, none⟩) cutL[k].2.length cutL[k].2.length) ∧
    (cutsW ti tp w).ownsRow w.heap.size ti 1 (.slice (some ⟨w.heap.size + k, 0, none⟩) cutL[k].2.length cutL[k].2.length) cutL[k].2.length (intCells cutL[k].2) := by
  have hz : (layRows ti w (cutL.map (·.2))).heap.size = w.heap.size + 9 := by rw [layRows_size]; rfl
  obtain ⟨h1, h2⟩ := cutCells_at w.heap.size k h
  refine ⟨?_, ?_, ?_⟩
  · unfold cutsW
    rw [World.cell?_alloc_at _ _ _ _ (by simp [hz])]
    exact h1
  · unfold cutsW
    rw [World.cell?_alloc_at _ _ _ _ (by simp [hz])]
    exact h2
  · have := layRows_row ti (cutL.map (·.2)) w k (by simpa using h) (by simpa using (cutL_small k h).2)
    simp only [List.getElem_map] at this
    exact Kept.row this ((Same.refl _).alloc _) (fun _ _ e => e)

theorem cutsW_same (ti tp : TypeId) (w : World) : Same w (cutsW ti tp w) := (layRows_same ti _ w).alloc _

end Go.Proofs.Ytlfpepehngkehaa
