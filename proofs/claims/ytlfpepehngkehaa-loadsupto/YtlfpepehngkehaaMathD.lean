/-
  Plain mathematics: words in their order; dictionaries.
-/
import Derived.Test.YtlfpepehngkehaaMathA
import Derived.Laws.Strings
namespace Go.Proofs.Ytlfpepehngkehaa
set_option linter.unusedSimpArgs false
set_option linter.unusedVariables false

theorem bl_irrefl : ∀ l : List UInt8, Op.bytesLess l l = false
  | [] => rfl
  | a :: l => by simp [Op.bytesLess, bl_irrefl l]

theorem bl_trans : ∀ a b c : List UInt8, Op.bytesLess a b = true → Op.bytesLess b c = true → Op.bytesLess a c = true
  | _, [], _, h, _ => by simp [Op.bytesLess] at h
  | _, _ :: _, [], _, h => by simp [Op.bytesLess] at h
  | [], _ :: _, _ :: _, _, _ => rfl
  | x :: a, y :: b, z :: c, h, k => by
    simp only [Op.bytesLess, Bool.or_eq_true, Bool.and_eq_true, decide_eq_true_eq, beq_iff_eq] at h k ⊢
    rcases h with h | ⟨rfl, h⟩
    · rcases k with k | ⟨rfl, k⟩
      · exact .inl (UInt8.lt_trans h k)
      · exact .inl h
    · rcases k with k | ⟨rfl, k⟩
      · exact .inl k
      · exact .inr ⟨rfl, bl_trans a b c h k⟩

theorem bl_tri : ∀ a b : List UInt8, Op.bytesLess a b = false → Op.bytesLess b a = false → a = b
  | [], [], _, _ => rfl
  | [], _ :: _, h, _ => by simp [Op.bytesLess] at h
  | _ :: _, [], _, h => by simp [Op.bytesLess] at h
  | x :: a, y :: b, h, k => by
    simp only [Op.bytesLess, Bool.or_eq_false_iff, Bool.and_eq_false_iff, decide_eq_false_iff_not, beq_eq_false_iff_ne] at h k
    have hxy : x = y := UInt8.le_antisymm (UInt8.not_lt.1 k.1) (UInt8.not_lt.1 h.1)
    subst hxy
    rw [bl_tri a b (by rcases h.2 with h | h; exact absurd rfl h; exact h) (by rcases k.2 with h | h; exact absurd rfl h; exact h)]

/-- a word that begins another stands ahead of it. -/
theorem bl_prefix : ∀ (a b : List UInt8), b ≠ [] → Op.bytesLess a (a ++ b) = true
  | [], [], h => absurd rfl h
  | [], _ :: _, _ => rfl
  | x :: a, b, h => by simp [Op.bytesLess, bl_prefix a b h]

theorem ba_ext {a b : ByteArray} (h : a.toList = b.toList) : a = b := by
  rw [ByteArray.toList_eq, ByteArray.toList_eq] at h
  obtain ⟨⟨a⟩⟩ := a
  obtain ⟨⟨b⟩⟩ := b
  simp at h
  rw [h]

def wl (a b : ByteArray) : Bool := Op.bytesLess a.toList b.toList
theorem wl_irrefl (a : ByteArray) : wl a a = false := bl_irrefl _
theorem wl_trans {a b c : ByteArray} : wl a b = true → wl b c = true → wl a c = true := bl_trans _ _ _
theorem wl_tri {a b : ByteArray} (h : wl a b = false) (k : wl b a = false) : a = b := ba_ext (bl_tri _ _ h k)
theorem wl_asymm {a b : ByteArray} (h : wl a b = true) : wl b a = false := by
  cases e : wl b a with
  | false => rfl
  | true => have := wl_trans h e; rw [wl_irrefl] at this; cases this
theorem wl_ne {a b : ByteArray} (h : wl a b = true) : a ≠ b := fun e => by rw [e, wl_irrefl] at h; cases h

abbrev Dic := List (ByteArray × Nat)

def Srt (D : Dic) : Prop := D.Pairwise fun a b => wl a.1 b.1 = true

theorem srt_unique : ∀ {D D' : Dic}, Srt D → Srt D' → (∀ p, p ∈ D ↔ p ∈ D') → D = D'
  | [], [], _, _, _ => rfl
  | [], p :: D', _, _, h => by have := (h p).2 (List.mem_cons_self); cases this
  | p :: D, [], _, _, h => by have := (h p).1 (List.mem_cons_self); cases this
  | p :: D, q :: D', hD, hD', h => by
    obtain ⟨h1, h2⟩ := List.pairwise_cons.1 hD
    obtain ⟨h3, h4⟩ := List.pairwise_cons.1 hD'
    have e : p = q := by
      rcases List.mem_cons.1 ((h p).1 List.mem_cons_self) with e | e
      · exact e
      · rcases List.mem_cons.1 ((h q).2 List.mem_cons_self) with e' | e'
        · exact e'.symm
        · have a := h1 q e'
          have b := h3 p e
          rw [wl_asymm a] at b
          cases b
    subst e
    rw [srt_unique h2 h4]
    intro x
    constructor
    · intro hx
      rcases List.mem_cons.1 ((h x).1 (List.mem_cons_of_mem _ hx)) with e | e
      · subst e
        have := h1 x hx
        rw [wl_irrefl] at this
        cases this
      · exact e
    · intro hx
      rcases List.mem_cons.1 ((h x).2 (List.mem_cons_of_mem _ hx)) with e | e
      · subst e
        have := h3 x hx
        rw [wl_irrefl] at this
        cases this
      · exact e

/-- of one word there is one cost. -/
theorem srt_one {D : Dic} (h : Srt D) {w : ByteArray} {c c' : Nat} (h1 : (w, c) ∈ D) (h2 : (w, c') ∈ D) : c = c' := by
  induction D with
  | nil => cases h1
  | cons p D ih =>
    obtain ⟨a, b⟩ := List.pairwise_cons.1 h
    rcases List.mem_cons.1 h1 with e1 | e1
    · rcases List.mem_cons.1 h2 with e2 | e2
      · rw [← e1] at e2; cases e2; rfl
      · have := a _ e2; rw [← e1] at this; simp [wl_irrefl] at this
    · rcases List.mem_cons.1 h2 with e2 | e2
      · have := a _ e1; rw [← e2] at this; simp [wl_irrefl] at this
      · exact ih b e1 e2

/-- where a word stands, or would have to be put. -/
def SplitAt (D : Dic) (w : ByteArray) (k : Nat) : Prop :=
  k ≤ D.length ∧ (∀ j (h : j < D.length), j < k → wl D[j].1 w = true) ∧ ∀ j (h : j < D.length), k ≤ j → wl D[j].1 w = false

theorem SplitAt.parts {D : Dic} {w : ByteArray} {k : Nat} (h : SplitAt D w k) : ∃ L R, D = L ++ R ∧ L.length = k ∧ (∀ p ∈ L, wl p.1 w = true) ∧ (∀ p ∈ R, wl p.1 w = false) := by
  obtain ⟨h0, h1, h2⟩ := h
  refine ⟨D.take k, D.drop k, (List.take_append_drop k D).symm, by simp; omega, ?_, ?_⟩
  · intro p hp
    obtain ⟨j, hj, rfl⟩ := List.mem_iff_getElem.1 hp
    simp at hj
    rw [List.getElem_take]
    exact h1 j (by omega) (by omega)
  · intro p hp
    obtain ⟨j, hj, rfl⟩ := List.mem_iff_getElem.1 hp
    simp at hj
    rw [List.getElem_drop]
    exact h2 (k + j) (by omega) (by omega)

theorem srt_insert {L R : Dic} {w : ByteArray} (c : Nat) (h : Srt (L ++ R)) (h1 : ∀ p ∈ L, wl p.1 w = true) (h2 : ∀ p ∈ R, wl w p.1 = true) : Srt (L ++ (w, c) :: R) := by
  unfold Srt at h ⊢
  rw [List.pairwise_append] at h ⊢
  obtain ⟨a, b, d⟩ := h
  refine ⟨a, List.pairwise_cons.2 ⟨fun p hp => h2 p hp, b⟩, fun x hx y hy => ?_⟩
  rcases List.mem_cons.1 hy with e | e
  · rw [e]; exact h1 x hx
  · exact d x hx y e

theorem srt_erase {L R : Dic} {p : ByteArray × Nat} (h : Srt (L ++ p :: R)) : Srt (L ++ R) := by
  unfold Srt at h ⊢
  rw [List.pairwise_append] at h ⊢
  obtain ⟨a, b, d⟩ := h
  exact ⟨a, (List.pairwise_cons.1 b).2, fun x hx y hy => d x hx y (List.mem_cons_of_mem _ hy)⟩

/-- the one that is found: the rest lies behind it. -/
theorem found_split {L R : Dic} {w : ByteArray} {c : Nat} (h : Srt (L ++ (w, c) :: R)) : (∀ p ∈ L, wl p.1 w = true) ∧ ∀ p ∈ R, wl w p.1 = true := by
  unfold Srt at h
  rw [List.pairwise_append] at h
  obtain ⟨_, b, d⟩ := h
  exact ⟨fun p hp => d p hp _ List.mem_cons_self, (List.pairwise_cons.1 b).1⟩

/-! what entries say -/
def stepE (x : Ent) (w : ByteArray) (o : Option Nat) : Option Nat := if x.word = w then (if x.inn = true then some x.cost else none) else o
def eff (E : List Ent) (w : ByteArray) : Option Nat := E.foldl (fun o x => stepE x w o) none
theorem eff_snoc (E : List Ent) (x : Ent) (w : ByteArray) : eff (E ++ [x]) w = stepE x w (eff E w) := by simp [eff]

def Rep (D : Dic) (E : List Ent) : Prop := Srt D ∧ ∀ w c, (w, c) ∈ D ↔ eff E w = some c

theorem Rep.nil : Rep [] [] := ⟨List.Pairwise.nil, fun w c => by simp [eff]⟩

theorem Rep.unique {D D' : Dic} {E : List Ent} (h : Rep D E) (h' : Rep D' E) : D = D' :=
  srt_unique h.1 h'.1 fun p => by rw [show p = (p.1, p.2) from rfl, h.2, h'.2]

theorem mem_insert {L R : Dic} {w v : ByteArray} {c d : Nat} : (v, d) ∈ L ++ (w, c) :: R ↔ (v = w ∧ d = c) ∨ (v, d) ∈ L ++ R := by
  simp only [List.mem_append, List.mem_cons, Prod.mk.injEq]
  constructor
  · rintro (h | ⟨rfl, rfl⟩ | h)
    · exact .inr (.inl h)
    · exact .inl ⟨rfl, rfl⟩
    · exact .inr (.inr h)
  · rintro (⟨rfl, rfl⟩ | h | h)
    · exact .inr (.inl ⟨rfl, rfl⟩)
    · exact .inl h
    · exact .inr (.inr h)

theorem Rep.put_new {L R : Dic} {E : List Ent} {x : Ent} (h : Rep (L ++ R) E) (hx : x.inn = true) (h1 : ∀ p ∈ L, wl p.1 x.word = true) (h2 : ∀ p ∈ R, wl x.word p.1 = true) : Rep (L ++ (x.word, x.cost) :: R) (E ++ [x]) := by
  obtain ⟨hs, hm⟩ := h
  refine ⟨srt_insert _ hs h1 h2, fun w c => ?_⟩
  rw [mem_insert, eff_snoc, hm]
  unfold stepE
  by_cases e : x.word = w
  · subst e
    rw [if_pos rfl, if_pos hx]
    constructor
    · rintro (⟨_, rfl⟩ | h)
      · rfl
      · rw [← hm, List.mem_append] at h
        rcases h with h | h
        · exact absurd rfl (wl_ne (h1 _ h))
        · exact absurd rfl (wl_ne (h2 _ h)).symm
    · intro h; cases h; exact .inl ⟨rfl, rfl⟩
  · rw [if_neg e]
    constructor
    · rintro (⟨rfl, _⟩ | h)
      · exact absurd rfl e
      · exact h
    · exact .inr

theorem Rep.put_old {L R : Dic} {E : List Ent} {x : Ent} {c0 : Nat} (h : Rep (L ++ (x.word, c0) :: R) E) (hx : x.inn = true) : Rep (L ++ (x.word, x.cost) :: R) (E ++ [x]) := by
  obtain ⟨hs, hm⟩ := h
  obtain ⟨h1, h2⟩ := found_split hs
  refine ⟨srt_insert _ (srt_erase hs) h1 h2, fun w c => ?_⟩
  rw [mem_insert, eff_snoc]
  unfold stepE
  by_cases e : x.word = w
  · subst e
    rw [if_pos rfl, if_pos hx]
    constructor
    · rintro (⟨_, rfl⟩ | h)
      · rfl
      · rw [List.mem_append] at h
        rcases h with h | h
        · exact absurd rfl (wl_ne (h1 _ h))
        · exact absurd rfl (wl_ne (h2 _ h)).symm
    · intro h; cases h; exact .inl ⟨rfl, rfl⟩
  · rw [if_neg e, ← hm, mem_insert]
    constructor
    · rintro (⟨rfl, _⟩ | h)
      · exact absurd rfl e
      · exact .inr h
    · rintro (⟨rfl, _⟩ | h)
      · exact absurd rfl e
      · exact .inr h

theorem Rep.drop_old {L R : Dic} {E : List Ent} {x : Ent} {c0 : Nat} (h : Rep (L ++ (x.word, c0) :: R) E) (hx : x.inn = false) : Rep (L ++ R) (E ++ [x]) := by
  obtain ⟨hs, hm⟩ := h
  obtain ⟨h1, h2⟩ := found_split hs
  refine ⟨srt_erase hs, fun w c => ?_⟩
  rw [eff_snoc]
  unfold stepE
  by_cases e : x.word = w
  · subst e
    rw [if_pos rfl, hx]
    simp only [Bool.false_eq_true, if_false]
    constructor
    · intro h
      rw [List.mem_append] at h
      rcases h with h | h
      · exact absurd rfl (wl_ne (h1 _ h))
      · exact absurd rfl (wl_ne (h2 _ h)).symm
    · intro h; cases h
  · rw [if_neg e, ← hm, mem_insert]
    constructor
    · exact .inr
    · rintro (⟨rfl, _⟩ | h)
      · exact absurd rfl e
      · exact h

theorem Rep.drop_none {D : Dic} {E : List Ent} {x : Ent} (h : Rep D E) (hx : x.inn = false) (hn : ∀ c, (x.word, c) ∉ D) : Rep D (E ++ [x]) := by
  obtain ⟨hs, hm⟩ := h
  refine ⟨hs, fun w c => ?_⟩
  rw [eff_snoc]
  unfold stepE
  by_cases e : x.word = w
  · subst e
    rw [if_pos rfl, hx]
    simp only [Bool.false_eq_true, if_false]
    constructor
    · intro h; exact absurd h (hn c)
    · intro h; cases h
  · rw [if_neg e]; exact hm w c

/-! from the last entry on -/
def Has (S : List Ent) (w : ByteArray) : Prop := ∃ y ∈ S, y.word = w

theorem foldl_has (S : List Ent) (w : ByteArray) (o : Option Nat) : (Has S w → S.foldl (fun o x => stepE x w o) o = eff S w) ∧ (¬ Has S w → S.foldl (fun o x => stepE x w o) o = o) := by
  induction S generalizing o with
  | nil => exact ⟨(fun h => by obtain ⟨y, hy, _⟩ := h; cases hy), fun _ => rfl⟩
  | cons x S ih =>
    by_cases hS : Has S w
    · refine ⟨fun _ => ?_, fun h => absurd ?_ h⟩
      · show S.foldl _ (stepE x w o) = S.foldl _ (stepE x w none)
        rw [(ih _).1 hS, (ih _).1 hS]
      · obtain ⟨y, hy, e⟩ := hS; exact ⟨y, List.mem_cons_of_mem _ hy, e⟩
    · refine ⟨fun h => ?_, fun h => ?_⟩
      · show S.foldl _ (stepE x w o) = S.foldl _ (stepE x w none)
        rw [(ih _).2 hS, (ih _).2 hS]
        obtain ⟨y, hy, e⟩ := h
        rcases List.mem_cons.1 hy with rfl | hy
        · simp [stepE, e]
        · exact absurd ⟨y, hy, e⟩ hS
      · show S.foldl _ (stepE x w o) = o
        rw [(ih _).2 hS]
        have : x.word ≠ w := fun e => h ⟨x, List.mem_cons_self, e⟩
        simp [stepE, this]

theorem eff_cons_has {S : List Ent} {x : Ent} {w : ByteArray} (h : Has S w) : eff (x :: S) w = eff S w := (foldl_has S w (stepE x w none)).1 h
theorem eff_cons_no {S : List Ent} {x : Ent} {w : ByteArray} (h : ¬ Has S w) : eff (x :: S) w = stepE x w none := (foldl_has S w (stepE x w none)).2 h
theorem eff_no {S : List Ent} {w : ByteArray} (h : ¬ Has S w) : eff S w = none := (foldl_has S w none).2 h

theorem Rep.cons_met {D : Dic} {S : List Ent} {x : Ent} (h : Rep D S) (hx : Has S x.word) : Rep D (x :: S) := by
  refine ⟨h.1, fun w c => ?_⟩
  rw [h.2]
  by_cases hw : Has S w
  · rw [eff_cons_has hw]
  · rw [eff_cons_no hw, eff_no hw]
    have : x.word ≠ w := fun e => hw (e ▸ hx)
    simp [stepE, this]

theorem Rep.cons_out {D : Dic} {S : List Ent} {x : Ent} (h : Rep D S) (hi : x.inn = false) : Rep D (x :: S) := by
  refine ⟨h.1, fun w c => ?_⟩
  rw [h.2]
  by_cases hw : Has S w
  · rw [eff_cons_has hw]
  · rw [eff_cons_no hw, eff_no hw]
    simp [stepE, hi]

theorem Rep.cons_in {L R : Dic} {S : List Ent} {x : Ent} (h : Rep (L ++ R) S) (hn : ¬ Has S x.word) (hi : x.inn = true) (h1 : ∀ p ∈ L, wl p.1 x.word = true) (h2 : ∀ p ∈ R, wl x.word p.1 = true) : Rep (L ++ (x.word, x.cost) :: R) (x :: S) := by
  refine ⟨srt_insert _ h.1 h1 h2, fun w c => ?_⟩
  rw [mem_insert, h.2]
  by_cases hw : Has S w
  · rw [eff_cons_has hw]
    constructor
    · rintro (⟨rfl, _⟩ | h)
      · exact absurd hw hn
      · exact h
    · exact .inr
  · rw [eff_cons_no hw, eff_no hw]
    unfold stepE
    by_cases e : x.word = w
    · subst e
      rw [if_pos rfl, if_pos hi]
      constructor
      · rintro (⟨_, rfl⟩ | h)
        · rfl
        · cases h
      · intro h; cases h; exact .inl ⟨rfl, rfl⟩
    · rw [if_neg e]
      constructor
      · rintro (⟨rfl, _⟩ | h)
        · exact absurd rfl e
        · exact h
      · exact .inr

end Go.Proofs.Ytlfpepehngkehaa
