/-
  Worlds: what a call may write: a set of old blocks, and new ones.
-/
import Derived.Test.YtlfpepehngkehabDoorSetW
import Derived.Maps.AppendAt
import Derived.Deep.QuietTactic
namespace Go.Proofs.YtlfpepehngkehabDoor
set_option linter.unusedSimpArgs false
set_option linter.unusedVariables false
open Go.RowKit

structure Kept (w w' : World) (S : Nat → Prop) : Prop where
  os : w'.os = w.os
  tape : w'.tape = w.tape
  output : w'.output = w.output
  size : w.heap.size ≤ w'.heap.size
  block : ∀ k, k < w.heap.size → ¬ S k → w'.heap[k]? = w.heap[k]?

theorem Kept.refl (w : World) (S : Nat → Prop) : Kept w w S := ⟨rfl, rfl, rfl, Nat.le_refl _, fun _ _ _ => rfl⟩
theorem Kept.trans {a b c : World} {S T : Nat → Prop} (h : Kept a b S) (k : Kept b c T) (hT : ∀ i, T i → S i ∨ a.heap.size ≤ i) : Kept a c S :=
  ⟨k.os.trans h.os, k.tape.trans h.tape, k.output.trans h.output, Nat.le_trans h.size k.size, fun i hi hS => by
    rw [k.block i (by have := h.size; omega) (fun ht => by rcases hT i ht with x | x; exact hS x; omega), h.block i hi hS]⟩
theorem Kept.mono {a b : World} {S T : Nat → Prop} (h : Kept a b S) (hT : ∀ i, S i → T i ∨ a.heap.size ≤ i) : Kept a b T :=
  ⟨h.os, h.tape, h.output, h.size, fun i hi hS => h.block i hi fun hs => by rcases hT i hs with x | x; exact hS x; omega⟩
theorem Kept.alloc {a w : World} {S : Nat → Prop} (h : Kept a w S) (o : Obj) : Kept a (w.alloc o) S :=
  h.trans ⟨rfl, rfl, rfl, by simp, fun k hk _ => Below.heap_alloc w o k hk⟩ (T := fun _ => False) (fun _ h => h.elim)
theorem Kept.drew {a w : World} {S : Nat → Prop} (h : Kept a w S) : Kept a w.drew S := ⟨h.os, h.tape, h.output, h.size, h.block⟩
theorem Kept.drewN {a w : World} {S : Nat → Prop} (h : Kept a w S) (n : Nat) : Kept a (w.drewN n) S := ⟨h.os, h.tape, h.output, h.size, h.block⟩
theorem Kept.setCell {a w : World} {S : Nat → Prop} (h : Kept a w S) (p : Addr) (u : Value) (hp : S p.block ∨ a.heap.size ≤ p.block) : Kept a (w.setCell p u) S := by
  refine h.trans (T := fun k => k = p.block) ⟨rfl, rfl, rfl, by simp [World.setCell], fun k hk hne => ?_⟩ (fun i hi => by rw [hi]; exact hp)
  exact Below.heap_setCell _ _ _ _ hne
theorem Kept.grown {a w w' : World} {S : Nat → Prop} {row : Option Nat} (h : Kept a w S) (hg : w.grownBy w' row) (hr : ∀ k, row = some k → S k ∨ a.heap.size ≤ k) : Kept a w' S :=
  h.trans (T := fun k => some k = row) ⟨hg.os, hg.tape, hg.output, hg.size, fun k hk hne => hg.block k hk hne⟩ (fun i hi => hr i hi.symm)
theorem Kept.of_below {w w' : World} (h : Below w.heap.size w w') (S : Nat → Prop) : Kept w w' S := ⟨h.os, h.tape, h.output, h.size, fun k hk _ => h.block k hk⟩
theorem Kept.below {w w' : World} {S : Nat → Prop} {B : Nat} (h : Kept w w' S) (hB : B ≤ w.heap.size) (hS : ∀ k, S k → B ≤ k) : Below B w w' :=
  ⟨h.os, h.tape, h.output, h.size, fun k hk => h.block k (by omega) (fun hs => by have := hS k hs; omega)⟩
theorem Kept.cell {w w' : World} {S : Nat → Prop} (h : Kept w w' S) {p : Addr} (hp : p.block < w.heap.size) (hS : ¬ S p.block) : w'.cell? p = w.cell? p := World.cell?_of_block (w := w) (h.block p.block hp hS)
theorem Kept.frozen {w w' : World} {S : Nat → Prop} (h : Kept w w' S) {p : Addr} (hp : p.block < w.heap.size) (hS : ¬ S p.block) : w'.frozen? p = w.frozen? p := World.frozen?_of_block (w := w) (h.block p.block hp hS)

theorem Kept.row {w w' : World} {S : Nat → Prop} {base : Nat} {e : TypeId} {size : Nat} {v : Value} {n : Nat} {xs : List Value} (h : w.ownsRow base e size v n xs) (hk : Kept w w' S) (hS : ∀ k, v.ownBlock = some k → ¬ S k) : w'.ownsRow base e size v n xs := by
  obtain ⟨h1, h2⟩ := h
  refine ⟨h1, ?_⟩
  rcases h2 with h | ⟨g, cap, cur, h3, h4, h5, h6⟩
  · exact .inl h
  · refine .inr ⟨g, cap, cur, h3, h4, ?_, h6⟩
    rw [hk.block g (Array.getElem?_eq_some_iff.1 h5 |>.1) (hS g (by rw [h3]; rfl))]
    exact h5

/-! rows of pairs, stored into -/
theorem pairCells_set (D : Dic) (k : Nat) (p : ByteArray × Nat) (h : k < D.length) : ((pairCells D).set (k * 2) (.string p.1)).set (k * 2 + 1) (.int .i64 p.2) = pairCells (D.set k p) := by
  induction D generalizing k with
  | nil => simp at h
  | cons x E ih =>
    rw [pairCells_cons]
    cases k with
    | zero => simp [pairCells_cons]
    | succ k =>
      have e : (k + 1) * 2 = k * 2 + 1 + 1 := by omega
      rw [e]
      simp only [List.set_cons_succ, pairCells_cons]
      rw [ih k (by simpa using h)]

theorem pairCells_set1 (D : Dic) (k : Nat) (c : Nat) (h : k < D.length) : (pairCells D).set (k * 2 + 1) (.int .i64 c) = pairCells (D.set k (D[k].1, c)) := by
  induction D generalizing k with
  | nil => simp at h
  | cons x E ih =>
    rw [pairCells_cons]
    cases k with
    | zero => simp [pairCells_cons]
    | succ k =>
      have e : (k + 1) * 2 = k * 2 + 1 + 1 := by omega
      rw [e]
      simp only [List.set_cons_succ, pairCells_cons]
      rw [ih k (by simpa using h)]
      simp

theorem row_set1 {w : World} {B g cap n : Nat} {t : TypeId} {D : Dic} (h : w.ownsRow B t 2 (.slice (some ⟨g, 0, none⟩) n cap) n (pairCells D)) (k : Nat) (hn : n = D.length) (hk : k < D.length) (c : Nat) :
    (w.setCell ⟨g, k * 2 + 1, none⟩ (.int .i64 c)).ownsRow B t 2 (.slice (some ⟨g, 0, none⟩) n cap) n (pairCells (D.set k (D[k].1, c))) := by
  have := (h.stored (k * 2 + 1) (.int .i64 c)).1
  rwa [pairCells_set1 D k c hk] at this

theorem row_set2 {w : World} {B g cap n : Nat} {t : TypeId} {D : Dic} (h : w.ownsRow B t 2 (.slice (some ⟨g, 0, none⟩) n cap) n (pairCells D)) (k : Nat) (hn : n = D.length) (hk : k < D.length) (p : ByteArray × Nat) :
    ((w.setCell ⟨g, k * 2, none⟩ (.string p.1)).setCell ⟨g, k * 2 + 1, none⟩ (.int .i64 p.2)).ownsRow B t 2 (.slice (some ⟨g, 0, none⟩) n cap) n (pairCells (D.set k p)) := by
  have := ((h.stored (k * 2) (.string p.1)).1.stored (k * 2 + 1) (.int .i64 p.2)).1
  rwa [pairCells_set D k p hk] at this

theorem cell_lt {w : World} {b o : Nat} {v : Value} (h : w.cell? ⟨b, o, none⟩ = some v) : b < w.heap.size := World.block_lt_of_cell? w _ h

theorem news2 (w : World) (a b : Value) (t : TypeId) (n : Nat) (hn : n = w.heap.size) : ∀ j u, [a, b][j]? = some u → (w.alloc (.cells #[a, b] t)).cell? ((⟨n, 0, none⟩ : Addr).add j) = some u := by
  subst hn
  intro j u h
  match j, h with
  | 0, h => simp at h; subst h; simp [Addr.add]
  | 1, h => simp at h; subst h; simp [Addr.add]

theorem ownsRow_below' {w w1 : World} {base : Nat} {e : TypeId} {size : Nat} {v : Value} {n : Nat} {xs : List Value} (h : w.ownsRow base e size v n xs) (hb : Below w.heap.size w w1) : w1.ownsRow base e size v n xs :=
  Kept.row h (Kept.of_below hb (fun _ => False)) (fun _ _ e => e)
theorem one2 (x : ByteArray) (c : Int) : ∀ u ∈ [Value.string x, .int .i64 c], u.oneCell' = true := by
  intro u hu; simp at hu; rcases hu with rfl | rfl <;> rfl

end Go.Proofs.YtlfpepehngkehabDoor
