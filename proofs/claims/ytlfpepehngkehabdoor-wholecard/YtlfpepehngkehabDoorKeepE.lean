/-
  Worlds: the two lists and the table of the keep statements, while they grow.
-/
import Derived.Test.YtlfpepehngkehabDoorKeepD
namespace Go.Proofs.YtlfpepehngkehabDoor
set_option linter.unusedSimpArgs false
set_option linter.unusedVariables false
open Go.RowKit

/-- a slice of numbers that came in. -/
def IntsAt (w : World) (a : Option Addr) (xs : List Int) : Prop :=
  (∀ x ∈ xs, -9223372036854775808 ≤ x ∧ x ≤ 9223372036854775807) ∧ (xs = [] ∨ ∃ b off, a = some ⟨b, off, none⟩ ∧ ∀ i (h : i < xs.length), w.cell? ⟨b, off + i, none⟩ = some (.int .i64 xs[i]))

theorem IntsAt.below {w w' : World} {a : Option Addr} {xs : List Int} (h : IntsAt w a xs) (hb : Below w.heap.size w w') : IntsAt w' a xs := by
  obtain ⟨h0, h⟩ := h
  refine ⟨h0, ?_⟩
  rcases h with h | ⟨b, off, rfl, h⟩
  · exact .inl h
  · exact .inr ⟨b, off, rfl, fun i hi => by rw [hb.cell (p := ⟨b, off + i, none⟩) (cell_lt (h i hi))]; exact h i hi⟩

structure LS (w : World) (B : Nat) (L M : List ByteArray) (T : Tab) (av bv Wv Cv : Value) : Prop where
  ra : w.ownsRow (B + 1) 9 1 av L.length (strCells L)
  rb : w.ownsRow (B + 1) 9 1 bv M.length (strCells M)
  tb : TabAt w B T Wv Cv
  ab : Apart av bv
  aW : Apart av Wv
  aC : Apart av Cv
  bW : Apart bv Wv
  bC : Apart bv Cv

theorem LS.same {w w' : World} {B : Nat} {L M : List ByteArray} {T : Tab} {av bv Wv Cv : Value} (h : LS w B L M T av bv Wv Cv) (hs : Same w w') : LS w' B L M T av bv Wv Cv :=
  ⟨hs.row h.ra, hs.row h.rb, h.tb.same hs, h.ab, h.aW, h.aC, h.bW, h.bC⟩

theorem LS.put {w w' : World} {B : Nat} {L M : List ByteArray} {T T' : Tab} {av bv Wv Cv : Value} (h : LS w B L M T av bv Wv Cv) (hp : PutRes w w' B T' Wv Cv) : ∃ Wv' Cv', LS w' B L M T' av bv Wv' Cv' := by
  obtain ⟨Wv', Cv', h1, h2, h3, h4⟩ := hp
  have na : ∀ k, av.ownBlock = some k → ¬ PutMay B Wv Cv k := fun k e m => by
    rcases m with m | m | m
    · have := (h.ra.lt k e).1; omega
    · exact h.aW k e m
    · exact h.aC k e m
  have nb : ∀ k, bv.ownBlock = some k → ¬ PutMay B Wv Cv k := fun k e m => by
    rcases m with m | m | m
    · have := (h.rb.lt k e).1; omega
    · exact h.bW k e m
    · exact h.bC k e m
  refine ⟨Wv', Cv', ⟨Kept.row h.ra h2 na, Kept.row h.rb h2 nb, h1, h.ab, fun k e e2 => ?_, fun k e e2 => ?_, fun k e e2 => ?_, fun k e e2 => ?_⟩⟩
  · rcases h3 k e2 with m | m
    · exact h.aW k e m
    · have := (h.ra.lt k e).2; omega
  · rcases h4 k e2 with m | m
    · exact h.aC k e m
    · have := (h.ra.lt k e).2; omega
  · rcases h3 k e2 with m | m
    · exact h.bW k e m
    · have := (h.rb.lt k e).2; omega
  · rcases h4 k e2 with m | m
    · exact h.bC k e m
    · have := (h.rb.lt k e).2; omega

theorem LS.addA {w w' : World} {B : Nat} {L M : List ByteArray} {T : Tab} {av bv Wv Cv av' : Value} {x : ByteArray} (h : LS w B L M T av bv Wv Cv) (hk : Kept w w' (fun k => av.ownBlock = some k))
    (hr : w'.ownsRow (B + 1) 9 1 av' (L.length + 1) (strCells L ++ [.string x])) (hl : ∀ k, av'.ownBlock = some k → av.ownBlock = some k ∨ w.heap.size ≤ k) : LS w' B (L ++ [x]) M T av' bv Wv Cv := by
  have nB : ¬ (av.ownBlock = some B) := fun e => by have := (h.ra.lt B e).1; omega
  refine ⟨by rw [strCells_append, List.length_append]; exact hr, Kept.row h.rb hk (fun k e e2 => h.ab k e2 e), h.tb.kept hk nB (fun k e e2 => h.aW k e2 e) (fun k e e2 => h.aC k e2 e), fun k e e2 => ?_, fun k e e2 => ?_, fun k e e2 => ?_, h.bW, h.bC⟩
  · rcases hl k e with m | m
    · exact h.ab k m e2
    · have := (h.rb.lt k e2).2; omega
  · rcases hl k e with m | m
    · exact h.aW k m e2
    · have := (h.tb.ow.lt k e2).2; omega
  · rcases hl k e with m | m
    · exact h.aC k m e2
    · have := (h.tb.oc.lt k e2).2; omega

theorem LS.addB {w w' : World} {B : Nat} {L M : List ByteArray} {T : Tab} {av bv Wv Cv bv' : Value} {x : ByteArray} (h : LS w B L M T av bv Wv Cv) (hk : Kept w w' (fun k => bv.ownBlock = some k))
    (hr : w'.ownsRow (B + 1) 9 1 bv' (M.length + 1) (strCells M ++ [.string x])) (hl : ∀ k, bv'.ownBlock = some k → bv.ownBlock = some k ∨ w.heap.size ≤ k) : LS w' B L (M ++ [x]) T av bv' Wv Cv := by
  have nB : ¬ (bv.ownBlock = some B) := fun e => by have := (h.rb.lt B e).1; omega
  refine ⟨Kept.row h.ra hk (fun k e e2 => h.ab k e e2), by rw [strCells_append, List.length_append]; exact hr, h.tb.kept hk nB (fun k e e2 => h.bW k e2 e) (fun k e e2 => h.bC k e2 e), fun k e e2 => ?_, h.aW, h.aC, fun k e e2 => ?_, fun k e e2 => ?_⟩
  · rcases hl k e2 with m | m
    · exact h.ab k e m
    · have := (h.ra.lt k e).2; omega
  · rcases hl k e with m | m
    · exact h.bW k m e2
    · have := (h.tb.ow.lt k e2).2; omega
  · rcases hl k e with m | m
    · exact h.bC k m e2
    · have := (h.tb.oc.lt k e2).2; omega

/-! what lists makes -/
def rw1 (raw : List Int) (j : Nat) : Int := raw.getD (2 * j) 0
def rw2 (raw : List Int) (j : Nat) : Int := raw.getD (2 * j + 1) 0
def txt (raw : List Int) (j : Nat) : ByteArray := entText (rw1 raw j) (rw2 raw j)
def txA (raw : List Int) : Nat → List ByteArray
  | 0 => []
  | j + 1 => if j < 20 then txA raw j ++ [txt raw j] else txA raw j
def txB (raw : List Int) : Nat → List ByteArray
  | 0 => []
  | j + 1 => if j < 20 then txB raw j else txB raw j ++ [txt raw j]
def tabTo (raw : List Int) : Nat → Tab
  | 0 => []
  | j + 1 => tput (tabTo raw j) (wordOf (rw1 raw j)) (entCost (rw2 raw j))
def nE (raw : List Int) : Nat := min (raw.length / 2) 40

theorem txA_length (raw : List Int) : ∀ j, (txA raw j).length ≤ j
  | 0 => Nat.le_refl _
  | j + 1 => by
    have := txA_length raw j
    simp only [txA]
    split
    · simp; omega
    · omega
theorem txB_length (raw : List Int) : ∀ j, (txB raw j).length ≤ j
  | 0 => Nat.le_refl _
  | j + 1 => by
    have := txB_length raw j
    simp only [txB]
    split
    · omega
    · simp; omega
theorem tabTo_length (raw : List Int) : ∀ j, (tabTo raw j).length ≤ j
  | 0 => Nat.le_refl _
  | j + 1 => by
    have h1 := tabTo_length raw j
    have h2 := tput_length (tabTo raw j) (wordOf (rw1 raw j)) (entCost (rw2 raw j))
    simp only [tabTo]
    omega

theorem txt_size (raw : List Int) (j : Nat) : (txt raw j).size ≤ 9 := by
  unfold txt entText
  have h1 := wordOf_size (rw1 raw j)
  have h2 := numB_size (entN_le (rw2 raw j))
  have h3 : bang.size = 1 := rfl
  have h4 : equs.size = 1 := rfl
  split
  · rw [ByteArray.size_append]; omega
  · rw [ByteArray.size_append, ByteArray.size_append]; omega

theorem txA_size (raw : List Int) : ∀ j, ∀ x ∈ txA raw j, x.size ≤ 9
  | 0, x, h => by simp [txA] at h
  | j + 1, x, h => by
    simp only [txA] at h
    split at h
    · rcases List.mem_append.1 h with h | h
      · exact txA_size raw j x h
      · simp at h; subst h; exact txt_size raw j
    · exact txA_size raw j x h
theorem txB_size (raw : List Int) : ∀ j, ∀ x ∈ txB raw j, x.size ≤ 9
  | 0, x, h => by simp [txB] at h
  | j + 1, x, h => by
    simp only [txB] at h
    split at h
    · exact txB_size raw j x h
    · rcases List.mem_append.1 h with h | h
      · exact txB_size raw j x h
      · simp at h; subst h; exact txt_size raw j

end Go.Proofs.YtlfpepehngkehabDoor
