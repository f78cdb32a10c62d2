/-
  Worlds: the best ways that are known, as the reference keeps them.
-/
import Derived.Test.YtlfpepehngkehaaRefCutE
import Derived.OwnWalk
namespace Go.Proofs.Ytlfpepehngkehaa
set_option linter.unusedSimpArgs false
set_option linter.unusedVariables false
open Go.RowKit

structure BestW (w : World) (G lo n : Nat) (f : Nat → Option BWay) : Prop where
  cell : ∀ d, d ≤ n → w.cell? ⟨G, d * 3, none⟩ = some (.bool (f (lo + d)).isSome) ∧ w.cell? ⟨G, d * 3 + 1, none⟩ = some (.int .i64 (wCost (f (lo + d)))) ∧
    ∃ v, w.cell? ⟨G, d * 3 + 2, none⟩ = some v ∧ w.ownsRow (G + 1) 3 1 v (wList (f (lo + d))).length (intCells (wList (f (lo + d))))
  fz : ∀ o, w.frozen? ⟨G, o, none⟩ = false

theorem BestW.lt {w : World} {G lo n : Nat} {f : Nat → Option BWay} (h : BestW w G lo n f) : G < w.heap.size := cell_lt (h.cell 0 (Nat.zero_le _)).1

theorem BestW.same {w w' : World} {G lo n : Nat} {f : Nat → Option BWay} (h : BestW w G lo n f) (hs : Same w w') : BestW w' G lo n f := by
  refine ⟨fun d hd => ?_, fun o => ?_⟩
  · obtain ⟨h1, h2, v, h3, h4⟩ := h.cell d hd
    exact ⟨hs.cell h1, hs.cell h2, v, hs.cell h3, hs.row h4⟩
  · exact (Kept.frozen hs (p := ⟨G, o, none⟩) h.lt id).trans (h.fz o)

theorem cell_set3 {w : World} {G a : Nat} {x y z : Value} {u0 u1 u2 : Value} (h0 : w.cell? ⟨G, a, none⟩ = some u0) (h1 : w.cell? ⟨G, a + 1, none⟩ = some u1) (h2 : w.cell? ⟨G, a + 2, none⟩ = some u2) :
    let W := ((w.setCell ⟨G, a, none⟩ x).setCell ⟨G, a + 1, none⟩ y).setCell ⟨G, a + 2, none⟩ z
    W.cell? ⟨G, a, none⟩ = some x ∧ W.cell? ⟨G, a + 1, none⟩ = some y ∧ W.cell? ⟨G, a + 2, none⟩ = some z := by
  intro W
  have n01 : (⟨G, a, none⟩ : Addr) ≠ ⟨G, a + 1, none⟩ := by simp
  have n02 : (⟨G, a, none⟩ : Addr) ≠ ⟨G, a + 2, none⟩ := by simp
  have n12 : (⟨G, a + 1, none⟩ : Addr) ≠ ⟨G, a + 2, none⟩ := by simp
  refine ⟨?_, ?_, ?_⟩
  · exact (World.cell?_setCell_other _ _ _ _ n02.symm).trans ((World.cell?_setCell_other _ _ _ _ n01.symm).trans (World.cell?_setCell_same _ _ _ h0))
  · exact (World.cell?_setCell_other _ _ _ _ n12.symm).trans (World.cell?_setCell_same _ _ _ ((World.cell?_setCell_other _ _ _ _ n01).trans h1))
  · exact World.cell?_setCell_same _ _ _ ((World.cell?_setCell_other _ _ _ _ n12).trans ((World.cell?_setCell_other _ _ _ _ n02).trans h2))

theorem cell_set3_other {w : World} {G a o : Nat} {x y z : Value} (h0 : o ≠ a) (h1 : o ≠ a + 1) (h2 : o ≠ a + 2) :
    (((w.setCell ⟨G, a, none⟩ x).setCell ⟨G, a + 1, none⟩ y).setCell ⟨G, a + 2, none⟩ z).cell? ⟨G, o, none⟩ = w.cell? ⟨G, o, none⟩ := by
  rw [World.cell?_setCell_other _ _ _ _ (by simp <;> omega), World.cell?_setCell_other _ _ _ _ (by simp <;> omega), World.cell?_setCell_other _ _ _ _ (by simp <;> omega)]

theorem kept_set3 (w : World) (G a : Nat) (x y z : Value) : Kept w (((w.setCell ⟨G, a, none⟩ x).setCell ⟨G, a + 1, none⟩ y).setCell ⟨G, a + 2, none⟩ z) (fun k => k = G) := by
  refine Kept.setCell (Kept.setCell (Kept.setCell (Kept.refl w _) _ _ ?_) _ _ ?_) _ _ ?_
  all_goals exact .inl rfl

theorem BestW.put {w : World} {G lo n d : Nat} {f : Nat → Option BWay} (h : BestW w G lo n f) (hd : d ≤ n) (b : BWay) (v : Value) (hr : w.ownsRow (G + 1) 3 1 v b.2.length (intCells b.2)) :
    BestW (((w.setCell ⟨G, d * 3, none⟩ (.bool true)).setCell ⟨G, d * 3 + 1, none⟩ (.int .i64 b.1)).setCell ⟨G, d * 3 + 2, none⟩ v) G lo n (fun p => if p = lo + d then some b else f p) := by
  have hk := kept_set3 w G (d * 3) (.bool true) (.int .i64 b.1) v
  have hrow : ∀ {u : Value} {m : Nat} {xs : List Value}, w.ownsRow (G + 1) 3 1 u m xs → (((w.setCell ⟨G, d * 3, none⟩ (.bool true)).setCell ⟨G, d * 3 + 1, none⟩ (.int .i64 b.1)).setCell ⟨G, d * 3 + 2, none⟩ v).ownsRow (G + 1) 3 1 u m xs :=
    fun hu => Kept.row hu hk fun k e e2 => by have := (hu.lt k e).1; omega
  refine ⟨fun d' hd' => ?_, fun o => ?_⟩
  · by_cases e : d' = d
    · subst e
      obtain ⟨h1, h2, u, h3, _⟩ := h.cell d' hd
      obtain ⟨c1, c2, c3⟩ := cell_set3 (x := .bool true) (y := .int .i64 b.1) (z := v) h1 h2 h3
      simp only [if_true]
      exact ⟨c1, c2, v, c3, hrow hr⟩
    · have e' : ¬ (lo + d' = lo + d) := by omega
      obtain ⟨h1, h2, u, h3, h4⟩ := h.cell d' hd'
      simp only [if_neg e']
      refine ⟨(cell_set3_other (by omega) (by omega) (by omega)).trans h1, (cell_set3_other (by omega) (by omega) (by omega)).trans h2, u, (cell_set3_other (by omega) (by omega) (by omega)).trans h3, hrow h4⟩
  · simp [h.fz]

theorem made_at (x y z : Value) (m k : Nat) (hk : k < m) : (madeCells #[x, y, z] (m * 3)).toList[k * 3]? = some x ∧ (madeCells #[x, y, z] (m * 3)).toList[k * 3 + 1]? = some y ∧ (madeCells #[x, y, z] (m * 3)).toList[k * 3 + 2]? = some z := by
  have h : ∀ j (hj : j < m * 3), (madeCells #[x, y, z] (m * 3)).toList[j]? = some (#[x, y, z][j % 3]!) := by
    intro j hj
    simp [madeCells, hj]
  refine ⟨?_, ?_, ?_⟩
  · rw [h _ (by omega), show k * 3 % 3 = 0 by omega]; rfl
  · rw [h _ (by omega), show (k * 3 + 1) % 3 = 1 by omega]; rfl
  · rw [h _ (by omega), show (k * 3 + 2) % 3 = 2 by omega]; rfl

theorem BestW.start {w : World} {B G lo n m : Nat} {t : TypeId} (hm : m = n + 1) (h : w.ownsRow B t 3 (.slice (some ⟨G, 0, none⟩) m m) m (madeCells #[.bool false, .int .i64 0, .slice none 0 0] (m * 3)).toList) :
    BestW (w.setCell ⟨G, 0, none⟩ (.bool true)) G lo n (fun p => if p = lo then some (0, []) else none) := by
  subst hm
  have hf : ∀ o, w.frozen? ⟨G, o, none⟩ = false := fun o => h.frozenAt o
  have hat : ∀ d, d ≤ n → w.cell? ⟨G, d * 3, none⟩ = some (.bool false) ∧ w.cell? ⟨G, d * 3 + 1, none⟩ = some (.int .i64 0) ∧ w.cell? ⟨G, d * 3 + 2, none⟩ = some (.slice none 0 0) := fun d hd => by
    obtain ⟨a, b, c⟩ := made_at (.bool false) (.int .i64 0) (.slice none 0 0) (n + 1) d (by omega)
    exact ⟨by rw [h.cellAt (d * 3) (by omega), a], by rw [h.cellAt (d * 3 + 1) (by omega), b], by rw [h.cellAt (d * 3 + 2) (by omega), c]⟩
  refine ⟨fun d hd => ?_, fun o => by simp [hf]⟩
  obtain ⟨a, b, c⟩ := hat d hd
  by_cases e : d = 0
  · subst e
    simp only [Nat.add_zero, if_true]
    exact ⟨World.cell?_setCell_same _ _ _ a, (World.cell?_setCell_other _ _ _ _ (by simp)).trans b, _, (World.cell?_setCell_other _ _ _ _ (by simp)).trans c, World.ownsRow_nil _ _ _ _⟩
  · have e' : ¬ (lo + d = lo) := by omega
    simp only [if_neg e']
    exact ⟨(World.cell?_setCell_other _ _ _ _ (by simp <;> omega)).trans a, (World.cell?_setCell_other _ _ _ _ (by simp)).trans b, _, (World.cell?_setCell_other _ _ _ _ (by simp)).trans c, World.ownsRow_nil _ _ _ _⟩

theorem best_start (D : Dic) (t : ByteArray) (lo hi : Nat) (hD : Small D) : BestS D t lo hi (Sat D t lo) (fun p => if p = lo then some (0, []) else none) := by
  have hno : ∀ p b, lo ≤ p → WayS D t lo (Sat D t lo) p b → p = lo ∧ b = (0, []) := fun p b hp hw => by
    rcases hw with h | ⟨q, l, c, c', h1, h2, _⟩
    · exact h
    · have := (h1.facts hD).1
      have := h2.2
      omega
  intro p h1 h2
  by_cases e : p = lo
  · subst e
    simp only [if_true]
    exact ⟨.inl ⟨rfl, rfl⟩, fun b' hb => by rw [(hno p b' h1 hb).2]; exact bleq_refl _⟩
  · simp only [if_neg e]
    exact fun b hb => e (hno p b h1 hb).1

/-- what is known of a place is a way there. -/
theorem BestS.bounds {D : Dic} {t : ByteArray} {lo hi : Nat} {S : Nat → Nat → Nat → Prop} {f : Nat → Option BWay} (hD : Small D) (h : BestS D t lo hi S f) (hS : ∀ q p c, S q p c → Step D t q p c) (hhi : hi ≤ 500) {p : Nat} (h1 : lo ≤ p) (h2 : p ≤ hi) :
    (wList (f p)).length ≤ 500 ∧ wCost (f p) ≤ 500000 := by
  have := h p h1 h2
  cases e : f p with
  | none => simp [wList, wCost]
  | some b =>
    rw [e] at this
    have hf := (this.1.way hS).facts hD
    simp only [wList, wCost]
    omega

/-- while the steps from i are looked at. -/
def CheapIn (D : Dic) (t : ByteArray) (lo hi i n G P : Nat) (w : World) (b : BWay) (bv : Value) (S : Nat → Nat → Nat → Prop) (wx : World) : Prop :=
  ∃ f, BestW wx G lo n f ∧ BestS D t lo hi S f ∧ f i = some b ∧ Cells3 wx P (.bool true) (.int .i64 b.1) bv ∧ wx.ownsRow (G + 1) 3 1 bv b.2.length (intCells b.2) ∧ Same w wx

theorem cheap_put {D : Dic} {t : ByteArray} {lo hi i n G P d c : Nat} {w X X' : World} {b : BWay} {bv v : Value} {S S' : Nat → Nat → Nat → Prop} {f : Nat → Option BWay} (hD : Small D)
    (hB : BestW X G lo n f) (hS : BestS D t lo hi S f) (hfi : f i = some b) (hP : Cells3 X P (.bool true) (.int .i64 b.1) bv) (hbr : X.ownsRow (G + 1) 3 1 bv b.2.length (intCells b.2)) (hsw : Same w X) (hw : Way D t lo i b.2 b.1) (hb : ∀ l c, Way D t lo i l c → bleq b (c, l))
    (hX : Same X X') (hr : X'.ownsRow (G + 1) 3 1 v (stepW b c (lo + d) (f (lo + d))).2.length (intCells (stepW b c (lo + d) (f (lo + d))).2)) (hd : d ≤ n) (hd0 : 0 < d) (hi' : i ≠ lo + d) (hPG : P ≠ G) (hG : w.heap.size ≤ G)
    (hSS : ∀ q p' c', S' q p' c' ↔ S q p' c' ∨ (q = i ∧ p' = lo + d ∧ c' = c)) :
    CheapIn D t lo hi i n G P w b bv S' (((X'.setCell ⟨G, d * 3, none⟩ (.bool true)).setCell ⟨G, d * 3 + 1, none⟩ (.int .i64 (stepW b c (lo + d) (f (lo + d))).1)).setCell ⟨G, d * 3 + 2, none⟩ v) := by
  have hk := kept_set3 X' G (d * 3) (.bool true) (.int .i64 (stepW b c (lo + d) (f (lo + d))).1) v
  refine ⟨_, (hB.same hX).put hd _ v hr, hS.add hD hw hb (by omega) hSS, by rw [if_neg hi']; exact hfi, (hP.kept hX id).kept hk hPG, ?_, ?_⟩
  · have := hX.row hbr
    exact Kept.row this hk fun k e e2 => by have := (this.lt k e).1; omega
  · exact Kept.trans (Kept.trans hsw hX fun _ e => e.elim) hk fun k e => .inr (by omega)

theorem CheapIn.same {D : Dic} {t : ByteArray} {lo hi i n G P : Nat} {w : World} {b : BWay} {bv : Value} {S S' : Nat → Nat → Nat → Prop} {X X' : World} (h : CheapIn D t lo hi i n G P w b bv S X) (hs : Same X X') (hS : ∀ q p c, S q p c ↔ S' q p c) : CheapIn D t lo hi i n G P w b bv S' X' := by
  obtain ⟨f, h1, h2, h3, h4, h5, h6⟩ := h
  exact ⟨f, h1.same hs, h2.congr hS, h3, h4.kept hs id, hs.row h5, Kept.trans h6 hs fun _ e => e.elim⟩

end Go.Proofs.Ytlfpepehngkehaa
