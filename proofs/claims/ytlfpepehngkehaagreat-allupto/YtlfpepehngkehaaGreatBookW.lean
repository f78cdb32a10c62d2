/-
  Worlds: the reference's book.
-/
import Derived.Test.YtlfpepehngkehaaGreatRefEntries
import Derived.Test.YtlfpepehngkehaaGreatRowsW
namespace Go.Proofs.YtlfpepehngkehaaGreat
set_option linter.unusedSimpArgs false
set_option linter.unusedVariables false
open Go.RowKit

theorem refCells_at (E : List Ent) (k : Nat) (h : k < E.length) : (refCells E)[k * 2]? = some (.string E[k].word) ∧ (refCells E)[k * 2 + 1]? = some (.int .i64 (refC E[k])) := by
  induction E generalizing k with
  | nil => simp at h
  | cons x E ih =>
    have e0 : refCells (x :: E) = .string x.word :: .int .i64 (refC x) :: refCells E := by simp [refCells]
    rw [e0]
    cases k with
    | zero => simp
    | succ k =>
      have := ih k (by simpa using h)
      have e : (k + 1) * 2 = k * 2 + 1 + 1 := by omega
      rw [e]
      simpa using this

theorem own_ref {w : World} {B g cap n : Nat} {t : TypeId} {E : List Ent} (h : w.ownsRow B t 2 (.slice (some ⟨g, 0, none⟩) n cap) n (refCells E)) {k : Nat} (hn : n = E.length) (hk : k < E.length) :
    w.cell? ⟨g, k * 2, none⟩ = some (.string E[k].word) ∧ w.cell? ⟨g, k * 2 + 1, none⟩ = some (.int .i64 (refC E[k])) := by
  obtain ⟨h0, h1⟩ := refCells_at E k hk
  refine ⟨?_, ?_⟩
  · rw [h.cellAt (k * 2) (by omega), h0]
  · rw [h.cellAt (k * 2 + 1) (by omega), h1]

structure BookAt (w : World) (B : Nat) (D : Dic) (Wv Cv : Value) : Prop where
  c0 : w.cell? ⟨B, 0, none⟩ = some Wv
  c1 : w.cell? ⟨B, 1, none⟩ = some Cv
  fz : ∀ o, w.frozen? ⟨B, o, none⟩ = false
  ow : w.ownsRow (B + 1) 9 1 Wv D.length (strCells (D.map (·.1)))
  oc : w.ownsRow (B + 1) 3 1 Cv D.length (intCells (D.map (·.2)))
  ap : Apart Wv Cv
  nl : D = [] → Wv = .slice none 0 0 ∧ Cv = .slice none 0 0

def SettRel (w wr : World) (E : List Ent) (mv xv : Value) : Prop :=
  ∃ (k : Nat) (D : Dic) (M : List ByteArray) (Wv Cv : Value), k ≤ E.length ∧ xv = .int .i64 ((k : Int) - 1) ∧ Rep D (E.drop k) ∧ (∀ y, y ∈ M ↔ Has (E.drop k) y) ∧ M.length + k ≤ E.length ∧ D.length + k ≤ E.length ∧
    BookAt wr w.heap.size D Wv Cv ∧ wr.ownsRow (w.heap.size + 1) 9 1 mv M.length (strCells M) ∧ Apart mv Wv ∧ Apart mv Cv ∧ Below w.heap.size w wr

theorem BookAt.kept {w w' : World} {B : Nat} {D : Dic} {Wv Cv : Value} {S : Nat → Prop} (h : BookAt w B D Wv Cv) (hk : Kept w w' S) (hB : ¬ S B) (hW : ∀ k, Wv.ownBlock = some k → ¬ S k) (hC : ∀ k, Cv.ownBlock = some k → ¬ S k) : BookAt w' B D Wv Cv := by
  have hb : B < w.heap.size := cell_lt h.c0
  exact ⟨(hk.cell (p := ⟨B, 0, none⟩) hb hB).trans h.c0, (hk.cell (p := ⟨B, 1, none⟩) hb hB).trans h.c1, fun o => (hk.frozen (p := ⟨B, o, none⟩) hb hB).trans (h.fz o), Kept.row h.ow hk hW, Kept.row h.oc hk hC, h.ap, h.nl⟩

theorem Same.book {w w' : World} {B : Nat} {D : Dic} {Wv Cv : Value} (hk : Same w w') (h : BookAt w B D Wv Cv) : BookAt w' B D Wv Cv := h.kept hk id (fun _ _ e => e) (fun _ _ e => e)
def OldRel (w0 wr : World) (M : List ByteArray) (S : List Ent) (x : ByteArray) (ov kv : Value) : Prop :=
  ∃ (i : Nat) (o : Bool), i ≤ M.length ∧ kv = .int .i64 i ∧ ov = .bool o ∧ (o = false → ∀ j (h : j < M.length), j < i → M[j] ≠ x) ∧ (o = true → Has S x) ∧ Same w0 wr

theorem has_cons {S : List Ent} {x : Ent} {y : ByteArray} : Has (x :: S) y ↔ x.word = y ∨ Has S y := by
  constructor
  · rintro ⟨z, hz, e⟩
    rcases List.mem_cons.1 hz with rfl | hz
    · exact .inl e
    · exact .inr ⟨z, hz, e⟩
  · rintro (e | ⟨z, hz, e⟩)
    · exact ⟨x, List.mem_cons_self, e⟩
    · exact ⟨z, List.mem_cons_of_mem _ hz, e⟩

theorem old_step {w0 wr : World} {M : List ByteArray} {S : List Ent} {x : ByteArray} {i nq : Nat} {kv : Value} (hi : i < M.length) (h1 : ∀ j (h : j < M.length), j < i → M[j] ≠ x) (hM : ∀ y, y ∈ M ↔ Has S y) (hs : Same w0 wr) (hk : kv = .int .i64 ((i + 1 : Nat) : Int)) :
    OldRel w0 (wr.drewN nq) M S x (.bool (M[i].toList == x.toList)) kv := by
  refine ⟨i + 1, _, by omega, hk, rfl, fun h j hj hji => ?_, fun h => ?_, Kept.drewN hs nq⟩
  · by_cases e : j = i
    · subst e
      intro e'
      rw [e'] at h
      simp at h
    · exact h1 j hj (by omega)
  · have e : M[i] = x := ba_ext (by simpa using h)
    exact (hM x).1 (e ▸ List.getElem_mem hi)

theorem met_grown {w wr w2 : World} {M : List ByteArray} {D : Dic} {mv v' Wv Cv : Value} {x : ByteArray} {o : Obj} (hB : BookAt wr w.heap.size D Wv Cv) (hmo : wr.ownsRow (w.heap.size + 1) 9 1 mv M.length (strCells M)) (ham : Apart mv Wv) (hac : Apart mv Cv) (hbel : Below w.heap.size w wr)
    (hown' : w2.ownsRow (w.heap.size + 1) 9 1 v' (M.length + 1) (strCells M ++ [.string x])) (hg : (wr.alloc o).grownBy w2 mv.ownBlock) (hat : v'.ownBlock = mv.ownBlock ∨ v'.ownBlock = some (wr.heap.size + 1)) :
    BookAt w2 w.heap.size D Wv Cv ∧ w2.ownsRow (w.heap.size + 1) 9 1 v' (M ++ [x]).length (strCells (M ++ [x])) ∧ Apart v' Wv ∧ Apart v' Cv ∧ Below w.heap.size w w2 := by
  have hK : Kept wr w2 (fun k => mv.ownBlock = some k) := ((Kept.refl wr _).alloc o).grown hg (fun k hk => .inl hk)
  have hlt := hmo.lt
  refine ⟨hB.kept hK (fun e => by have := (hlt _ e).1; omega) (fun k hk e => ham k e hk) (fun k hk e => hac k e hk), by rw [strCells_append, List.length_append]; exact hown', ?_, ?_, ?_⟩
  · intro k hk e
    rcases hat with a | a
    · exact ham k (a ▸ hk) e
    · rw [a] at hk; cases hk; have := (hB.ow.lt _ e).2; omega
  · intro k hk e
    rcases hat with a | a
    · exact hac k (a ▸ hk) e
    · rw [a] at hk; cases hk; have := (hB.oc.lt _ e).2; omega
  · exact hbel.trans (hK.below hbel.size (fun k hk => by have := (hlt k hk).1; omega))

theorem sett_out {w w0 : World} {E : List Ent} {mv : Value} {j : Nat} {D : Dic} {M : List ByteArray} {Wv Cv : Value} (hj : j < E.length) (hR : Rep D (E.drop (j + 1))) (hM : ∀ y, y ∈ M ↔ Has (E.drop (j + 1)) y) (hMl : M.length + (j + 1) ≤ E.length) (hDl : D.length + (j + 1) ≤ E.length)
    (hB : BookAt w0 w.heap.size D Wv Cv) (hmo : w0.ownsRow (w.heap.size + 1) 9 1 mv (M ++ [E[j].word]).length (strCells (M ++ [E[j].word]))) (ham : Apart mv Wv) (hac : Apart mv Cv) (hbel : Below w.heap.size w w0) (hi : E[j].inn = false) :
    SettRel w w0 E mv (.int .i64 ((j : Int) - 1)) := by
  have e : E.drop j = E[j] :: E.drop (j + 1) := List.drop_eq_getElem_cons hj
  refine ⟨j, D, M ++ [E[j].word], Wv, Cv, by omega, rfl, by rw [e]; exact hR.cons_out hi, fun y => ?_, by simp; omega, by omega, hB, hmo, ham, hac, hbel⟩
  rw [e, has_cons, ← hM]
  simp only [List.mem_append, List.mem_singleton]
  constructor
  · rintro (a | a)
    · exact .inr a
    · exact .inl a.symm
  · rintro (a | a)
    · exact .inr a.symm
    · exact .inl a

theorem sett_met {w w0 : World} {E : List Ent} {mv : Value} {j : Nat} {D : Dic} {M : List ByteArray} {Wv Cv : Value} (hj : j < E.length) (hR : Rep D (E.drop (j + 1))) (hM : ∀ y, y ∈ M ↔ Has (E.drop (j + 1)) y) (hMl : M.length + (j + 1) ≤ E.length) (hDl : D.length + (j + 1) ≤ E.length)
    (hB : BookAt w0 w.heap.size D Wv Cv) (hmo : w0.ownsRow (w.heap.size + 1) 9 1 mv M.length (strCells M)) (ham : Apart mv Wv) (hac : Apart mv Cv) (hbel : Below w.heap.size w w0) (hh : Has (E.drop (j + 1)) E[j].word) :
    SettRel w w0 E mv (.int .i64 ((j : Int) - 1)) := by
  have e : E.drop j = E[j] :: E.drop (j + 1) := List.drop_eq_getElem_cons hj
  refine ⟨j, D, M, Wv, Cv, by omega, rfl, by rw [e]; exact hR.cons_met hh, fun y => ?_, by omega, by omega, hB, hmo, ham, hac, hbel⟩
  rw [e, has_cons, hM]
  constructor
  · exact .inr
  · rintro (a | a)
    · rw [← a]; exact hh
    · exact a

theorem sett_in {w W W3 X W6 : World} {E : List Ent} {mv Wv Cv v3 v6 : Value} {j a : Nat} {D : Dic} {M : List ByteArray} (hj : j < E.length) (hR : Rep D (E.drop (j + 1))) (hM : ∀ y, y ∈ M ↔ Has (E.drop (j + 1)) y) (hMl : M.length + (j + 1) ≤ E.length) (hDl : D.length + (j + 1) ≤ E.length)
    (hB : BookAt W w.heap.size D Wv Cv) (hmo : W.ownsRow (w.heap.size + 1) 9 1 mv (M ++ [E[j].word]).length (strCells (M ++ [E[j].word]))) (hbel : Below w.heap.size w W) (hi : E[j].inn = true) (hnh : ¬ Has (E.drop (j + 1)) E[j].word) (hsp : SplitAt D E[j].word a)
    (hs3 : Same W W3) (h3 : W3.ownsRow W.heap.size 9 1 v3 (D.length + 1) (strCells ((hole D a (E[j].word, E[j].cost)).map (·.1)))) (hX : X = W3.setCell ⟨w.heap.size, 0, none⟩ v3) (hs6 : Same X W6)
    (h6 : W6.ownsRow W3.heap.size 3 1 v6 (D.length + 1) (intCells ((hole D a (E[j].word, E[j].cost)).map (·.2)))) :
    SettRel w (W6.setCell ⟨w.heap.size, 1, none⟩ v6) E mv (.int .i64 ((j : Int) - 1)) := by
  have e : E.drop j = E[j] :: E.drop (j + 1) := List.drop_eq_getElem_cons hj
  have hBW : w.heap.size < W.heap.size := cell_lt hB.c0
  have hz3 := hs3.size
  have hlen : (hole D a (E[j].word, E[j].cost)).length = D.length + 1 := hole_length hsp.1
  have hKX : Kept W3 X (fun k => k = w.heap.size) := by rw [hX]; exact (Kept.refl _ _).setCell _ _ (.inl rfl)
  have hKF : Kept W6 (W6.setCell ⟨w.heap.size, 1, none⟩ v6) (fun k => k = w.heap.size) := (Kept.refl _ _).setCell _ _ (.inl rfl)
  have hK : Kept W (W6.setCell ⟨w.heap.size, 1, none⟩ v6) (fun k => k = w.heap.size) :=
    ((((hs3.mono (T := fun k => k = w.heap.size) (fun _ e => e.elim)).trans hKX (fun i hi => .inl hi)).trans hs6 (fun _ e => e.elim)).trans hKF (fun i hi => .inl hi))
  have hX0 : X.cell? ⟨w.heap.size, 0, none⟩ = some v3 := by rw [hX]; apply World.cell?_setCell_same; exact hs3.cell hB.c0
  have hX1 : X.cell? ⟨w.heap.size, 1, none⟩ = some Cv := by rw [hX]; exact (World.cell?_setCell_other _ _ _ _ (by intro e; simp at e)).trans (hs3.cell hB.c1)
  have hXf : ∀ o, X.frozen? ⟨w.heap.size, o, none⟩ = false := fun o => by
    rw [hX]; simp only [World.frozen?_setCell]; exact (Kept.frozen hs3 (p := ⟨w.heap.size, o, none⟩) hBW id).trans (hB.fz o)
  have hBX : w.heap.size < X.heap.size := cell_lt hX0
  have hl3 := h3.lt
  have hl6 := h6.lt
  have hlm := hmo.lt
  have hrows : ∀ p ∈ D.take a, wl p.1 E[j].word = true := (split_right hR.1 hsp (fun h he => hnh (by
    obtain ⟨x, hx, e1, _⟩ := eff_mem ((hR.2 D[a].1 D[a].2).1 (List.getElem_mem h))
    exact ⟨x, hx, e1.trans he⟩))).1
  have hrows2 : ∀ p ∈ D.drop a, wl E[j].word p.1 = true := (split_right hR.1 hsp (fun h he => hnh (by
    obtain ⟨x, hx, e1, _⟩ := eff_mem ((hR.2 D[a].1 D[a].2).1 (List.getElem_mem h))
    exact ⟨x, hx, e1.trans he⟩))).2
  refine ⟨j, hole D a (E[j].word, E[j].cost), M ++ [E[j].word], v3, v6, by omega, rfl, ?_, fun y => ?_, by simp; omega, by rw [hlen]; omega, ⟨?_, ?_, ?_, ?_, ?_, ?_, ?_⟩, ?_, ?_, ?_, ?_⟩
  · rw [e]
    exact Rep.cons_in (by rw [List.take_append_drop]; exact hR) hnh hi hrows hrows2
  · rw [e, has_cons, ← hM]
    simp only [List.mem_append, List.mem_singleton]
    constructor
    · rintro (a | a)
      · exact .inr a
      · exact .inl a.symm
    · rintro (a | a)
      · exact .inr a.symm
      · exact .inl a
  · exact (World.cell?_setCell_other _ _ _ _ (by intro e; simp at e)).trans (hs6.cell hX0)
  · apply World.cell?_setCell_same; exact hs6.cell hX1
  · intro o
    simp only [World.frozen?_setCell]
    exact (Kept.frozen hs6 (p := ⟨w.heap.size, o, none⟩) hBX id).trans (hXf o)
  · rw [hlen]
    have r1 : X.ownsRow W.heap.size 9 1 v3 (D.length + 1) _ := Kept.row h3 hKX (fun k hk e => by have := (hl3 k hk).1; omega)
    have r2 := Kept.row (hs6.row r1) hKF (fun k hk e => by have := (hl3 k hk).1; omega)
    exact row_base r2 (by omega)
  · rw [hlen]
    have r2 := Kept.row h6 hKF (fun k hk e => by have := (hl6 k hk).1; omega)
    exact row_base r2 (by omega)
  · intro k hk e
    have := (hl3 k hk).2
    have := (hl6 k e).1
    omega
  · intro h0
    rw [h0] at hlen
    simp at hlen
  · exact Kept.row hmo hK (fun k hk e => by have := (hlm k hk).1; omega)
  · intro k hk e
    have := (hl3 k e).1
    have := (hlm k hk).2
    omega
  · intro k hk e
    have := (hl6 k e).1
    have := (hlm k hk).2
    omega
  · exact hbel.trans (hK.below (by omega) (fun k hk => by omega))

end Go.Proofs.YtlfpepehngkehaaGreat
