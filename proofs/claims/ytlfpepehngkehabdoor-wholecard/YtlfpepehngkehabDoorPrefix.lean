/-
  Walks: the words with which a text begins: both sides.
-/
import Derived.Test.YtlfpepehngkehabDoorRows
import Derived.Test.YtlfpepehngkehabDoorRowsW
import Derived.Test.YtlfpepehngkehabDoorMaths
namespace Go.Proofs.YtlfpepehngkehabDoor
set_option linter.unusedSimpArgs false
set_option linter.unusedVariables false
open Go.RowKit

def hitCells (H : List (Nat × Nat)) : List Value := H.flatMap fun h => [.int .i64 h.1, .int .i64 h.2]
theorem hitCells_append (H K : List (Nat × Nat)) : hitCells (H ++ K) = hitCells H ++ hitCells K := by simp [hitCells]
theorem hitCells_length (H : List (Nat × Nat)) : (hitCells H).length = H.length * 2 := by
  induction H with
  | nil => rfl
  | cons x E ih => simp only [hitCells, List.flatMap_cons, List.length_append] at ih ⊢; rw [ih]; simp; omega

theorem Tryd.infoHit : (Tryd.prog.info? 105).map (fun i => (i.zero, i.size, i.bytes)) = some (some (.agg #[.int .i64 0, .int .i64 0]), 2, 16) := by kernel_rfl

/-- hits: rising lengths; each hit is a word of the dictionary with which the text begins, shorter than n; each such word is a hit. -/
def HitsUpTo (D : Dic) (s : ByteArray) (n : Nat) (H : List (Nat × Nat)) : Prop :=
  H.Pairwise (fun a b => a.1 < b.1) ∧ ∀ l c, (l, c) ∈ H ↔ 1 ≤ l ∧ l < n ∧ l ≤ s.size ∧ (s.extract 0 l, c) ∈ D

theorem hits_unique : ∀ {H K : List (Nat × Nat)}, H.Pairwise (fun a b => a.1 < b.1) → K.Pairwise (fun a b => a.1 < b.1) → (∀ p, p ∈ H ↔ p ∈ K) → H = K
  | [], [], _, _, _ => rfl
  | [], p :: K, _, _, h => by have := (h p).2 List.mem_cons_self; cases this
  | p :: H, [], _, _, h => by have := (h p).1 List.mem_cons_self; cases this
  | p :: H, q :: K, hH, hK, h => by
    obtain ⟨h1, h2⟩ := List.pairwise_cons.1 hH
    obtain ⟨h3, h4⟩ := List.pairwise_cons.1 hK
    have e : p = q := by
      rcases List.mem_cons.1 ((h p).1 List.mem_cons_self) with e | e
      · exact e
      · rcases List.mem_cons.1 ((h q).2 List.mem_cons_self) with e' | e'
        · exact e'.symm
        · have a := h1 q e'
          have b := h3 p e
          omega
    subst e
    rw [hits_unique h2 h4]
    intro x
    constructor
    · intro hx
      rcases List.mem_cons.1 ((h x).1 (List.mem_cons_of_mem _ hx)) with e | e
      · subst e; have := h1 x hx; omega
      · exact e
    · intro hx
      rcases List.mem_cons.1 ((h x).2 (List.mem_cons_of_mem _ hx)) with e | e
      · subst e; have := h3 x hx; omega
      · exact e

theorem HitsUpTo.start (D : Dic) (s : ByteArray) : HitsUpTo D s 1 [] := ⟨List.Pairwise.nil, fun l c => by simp; omega⟩

theorem HitsUpTo.hit {D : Dic} {s : ByteArray} {n c : Nat} {H : List (Nat × Nat)} (h : HitsUpTo D s n H) (hs : Srt D) (hn : 1 ≤ n) (hl : n ≤ s.size) (hm : (s.extract 0 n, c) ∈ D) : HitsUpTo D s (n + 1) (H ++ [(n, c)]) := by
  obtain ⟨h1, h2⟩ := h
  refine ⟨List.pairwise_append.2 ⟨h1, List.pairwise_singleton _ _, fun a ha b hb => ?_⟩, fun l d => ?_⟩
  · rw [List.mem_singleton] at hb
    have := ((h2 a.1 a.2).1 ha).2.1
    rw [hb]; exact this
  · rw [List.mem_append, h2, List.mem_singleton, Prod.mk.injEq]
    constructor
    · rintro (⟨a, b, c', d'⟩ | ⟨rfl, rfl⟩)
      · exact ⟨a, by omega, c', d'⟩
      · exact ⟨hn, by omega, hl, hm⟩
    · rintro ⟨a, b, c', d'⟩
      by_cases e : l = n
      · subst e; exact .inr ⟨rfl, srt_one hs d' hm⟩
      · exact .inl ⟨a, by omega, c', d'⟩

theorem HitsUpTo.miss {D : Dic} {s : ByteArray} {n : Nat} {H : List (Nat × Nat)} (h : HitsUpTo D s n H) (hm : ∀ c, (s.extract 0 n, c) ∉ D) : HitsUpTo D s (n + 1) H := by
  obtain ⟨h1, h2⟩ := h
  refine ⟨h1, fun l d => ?_⟩
  rw [h2]
  constructor
  · rintro ⟨a, b, c', d'⟩; exact ⟨a, by omega, c', d'⟩
  · rintro ⟨a, b, c', d'⟩
    by_cases e : l = n
    · subst e; exact absurd d' (hm d)
    · exact ⟨a, by omega, c', d'⟩

/-- all hits. -/
def Hits (D : Dic) (s : ByteArray) (H : List (Nat × Nat)) : Prop := H.Pairwise (fun a b => a.1 < b.1) ∧ ∀ l c, (l, c) ∈ H ↔ l ≤ s.size ∧ (s.extract 0 l, c) ∈ D

theorem HitsUpTo.all {D : Dic} {s : ByteArray} {n : Nat} {H : List (Nat × Nat)} (h : HitsUpTo D s n H) (hw : ∀ p ∈ D, 1 ≤ p.1.size ∧ p.1.size ≤ 12) (hn : 12 < n ∨ s.size < n) : Hits D s H := by
  refine ⟨h.1, fun l c => ?_⟩
  rw [h.2]
  constructor
  · rintro ⟨a, b, c', d⟩; exact ⟨c', d⟩
  · rintro ⟨a, b⟩
    have := hw _ b
    have e : (s.extract 0 l).size = l := by simp; omega
    rw [show (s.extract 0 l, c).1 = s.extract 0 l from rfl, e] at this
    exact ⟨this.1, by omega, a, b⟩

theorem Hits.unique {D : Dic} {s : ByteArray} {H K : List (Nat × Nat)} (h : Hits D s H) (k : Hits D s K) : H = K :=
  hits_unique h.1 k.1 fun p => by rw [show p = (p.1, p.2) from rfl, h.2, k.2]

theorem extract_list (s : ByteArray) (n : Nat) : (s.extract 0 n).toList = s.data.toList.take n := by
  rw [ByteArray.toList_eq]
  simp [ByteArray.data_extract]

/-- the hits as the reference gathers them. -/
def hitsOf (D : Dic) (s : ByteArray) : List (Nat × Nat) := D.filterMap fun p => if p.1.size ≤ s.size ∧ s.extract 0 p.1.size = p.1 then some (p.1.size, p.2) else none

theorem hits_of {D : Dic} (hs : Srt D) (s : ByteArray) : Hits D s (hitsOf D s) := by
  constructor
  · unfold hitsOf
    rw [List.pairwise_filterMap]
    refine hs.imp ?_
    intro p q hpq a ha b hb
    split at ha
    · rename_i h1
      split at hb
      · rename_i h2
        cases ha; cases hb
        show p.1.size < q.1.size
        rcases Nat.lt_or_ge p.1.size q.1.size with h | h
        · exact h
        · exfalso
          have e1 : p.1.toList = s.data.toList.take p.1.size := by rw [← extract_list, h1.2]
          have e2 : q.1.toList = s.data.toList.take q.1.size := by rw [← extract_list, h2.2]
          have e3 : p.1.toList = q.1.toList ++ (s.data.toList.take p.1.size).drop q.1.size := by
            rw [e1, e2]
            have : s.data.toList.take q.1.size = (s.data.toList.take p.1.size).take q.1.size := by rw [List.take_take, Nat.min_eq_left h]
            rw [this, List.take_append_drop]
          by_cases hr : (s.data.toList.take p.1.size).drop q.1.size = []
          · rw [hr, List.append_nil] at e3
            exact wl_ne hpq (ba_ext e3)
          · have h3 : wl q.1 p.1 = true := by unfold wl; rw [e3]; exact bl_prefix _ _ hr
            rw [wl_asymm h3] at hpq
            cases hpq
      · cases hb
    · cases ha
  · intro l c
    unfold hitsOf
    rw [List.mem_filterMap]
    constructor
    · rintro ⟨p, hp, e⟩
      split at e
      · rename_i h
        cases e
        exact ⟨h.1, by rw [h.2]; exact hp⟩
      · cases e
    · rintro ⟨h1, h2⟩
      have e : (s.extract 0 l).size = l := by simp; omega
      refine ⟨_, h2, ?_⟩
      rw [if_pos]
      · simp only [e]
      · rw [e]; exact ⟨h1, rfl⟩

theorem hitsOf_snoc (D : Dic) (s : ByteArray) (i : Nat) (h : i < D.length) : hitsOf (D.take (i + 1)) s = hitsOf (D.take i) s ++ (if D[i].1.size ≤ s.size ∧ s.extract 0 D[i].1.size = D[i].1 then [(D[i].1.size, D[i].2)] else []) := by
  unfold hitsOf
  rw [List.take_succ_eq_append_getElem h, List.filterMap_append]
  congr 1
  split <;> simp [*]

theorem hitsOf_length (D : Dic) (s : ByteArray) : (hitsOf D s).length ≤ D.length := List.length_filterMap_le _ _

theorem news2i (w : World) (a b : Value) (t : TypeId) (n : Nat) (hn : n = w.heap.size) : ∀ j u, [a, b][j]? = some u → (w.alloc (.cells #[a, b] t)).cell? ((⟨n, 0, none⟩ : Addr).add j) = some u := news2 w a b t n hn
theorem one2i (a c : Int) : ∀ u ∈ [Value.int .i64 a, .int .i64 c], u.oneCell' = true := by
  intro u hu; simp at hu; rcases hu with rfl | rfl <;> rfl

theorem hitCells_at (H : List (Nat × Nat)) (k : Nat) (h : k < H.length) : (hitCells H)[k * 2]? = some (.int .i64 H[k].1) ∧ (hitCells H)[k * 2 + 1]? = some (.int .i64 H[k].2) := by
  induction H generalizing k with
  | nil => simp at h
  | cons x E ih =>
    have e0 : hitCells (x :: E) = .int .i64 x.1 :: .int .i64 x.2 :: hitCells E := by simp [hitCells]
    rw [e0]
    cases k with
    | zero => simp
    | succ k =>
      have := ih k (by simpa using h)
      have e : (k + 1) * 2 = k * 2 + 1 + 1 := by omega
      rw [e]
      simpa using this

theorem own_hit {w : World} {B g cap n : Nat} {t : TypeId} {H : List (Nat × Nat)} (h : w.ownsRow B t 2 (.slice (some ⟨g, 0, none⟩) n cap) n (hitCells H)) {k : Nat} (hn : n = H.length) (hk : k < H.length) :
    w.cell? ⟨g, k * 2, none⟩ = some (.int .i64 H[k].1) ∧ w.cell? ⟨g, k * 2 + 1, none⟩ = some (.int .i64 H[k].2) := by
  obtain ⟨h0, h1⟩ := hitCells_at H k hk
  refine ⟨?_, ?_⟩
  · rw [h.cellAt (k * 2) (by omega), h0]
  · rw [h.cellAt (k * 2 + 1) (by omega), h1]

end Go.Proofs.YtlfpepehngkehabDoor
