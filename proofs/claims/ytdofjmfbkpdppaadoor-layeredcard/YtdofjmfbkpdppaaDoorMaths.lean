import Derived.Laws.Strings
/-
  Plain mathematics of lists, bytes and the form of a list. Imports nothing of the dump.
-/
namespace Go.Proofs.YtdofjmfbkpdppaaDoor
set_option linter.unusedSimpArgs false
set_option linter.unusedVariables false

/-- the byte at a place of a text, as a number; nought behind the end. -/
def bt (s : ByteArray) (i : Nat) : Nat := (s.data.toList.getD i 0).toNat

theorem bt_lt (s : ByteArray) (i : Nat) : bt s i < 256 := by unfold bt; exact UInt8.toNat_lt _

theorem bt_get (s : ByteArray) (i : Nat) (h : i < s.size) : s[i].toNat = bt s i := by
  unfold bt
  have h' : i < s.data.toList.length := by simpa using h
  rw [List.getD_eq_getElem?_getD, List.getElem?_eq_getElem h', Option.getD_some]
  rfl

theorem bt_extract (s : ByteArray) (a b i : Nat) (h : i < b - a) (hb : b ≤ s.size) : bt (s.extract a b) i = bt s (a + i) := by
  have h1 : i < (s.extract a b).size := by simp; omega
  have h2 : a + i < s.size := by omega
  rw [← bt_get _ _ h1, ← bt_get _ _ h2]
  simp [ByteArray.getElem_extract]

/-- the sort of a byte. -/
def srt (c : Nat) : Nat :=
  if 97 ≤ c ∧ c ≤ 122 then 1 else if 65 ≤ c ∧ c ≤ 90 then 2 else if 48 ≤ c ∧ c ≤ 57 then 3 else if c = 126 then 4 else 0

theorem srt_le (c : Nat) : srt c ≤ 4 := by unfold srt; repeat (split <;> try omega)
theorem srt_1 {c : Nat} : srt c = 1 ↔ 97 ≤ c ∧ c ≤ 122 := by unfold srt; repeat (split <;> try omega)
theorem srt_2 {c : Nat} : srt c = 2 ↔ 65 ≤ c ∧ c ≤ 90 := by unfold srt; repeat (split <;> try omega)
theorem srt_3 {c : Nat} : srt c = 3 ↔ 48 ≤ c ∧ c ≤ 57 := by unfold srt; repeat (split <;> try omega)
theorem srt_4 {c : Nat} : srt c = 4 ↔ c = 126 := by unfold srt; repeat (split <;> try omega)

/-- a word of n bytes stands at k, as far as it can. -/
def WordAt (s : ByteArray) (k n : Nat) : Prop :=
  (n = 0 ∧ (s.size ≤ k ∨ (srt (bt s k) ≠ 1 ∧ srt (bt s k) ≠ 2))) ∨
  (1 ≤ n ∧ n ≤ 12 ∧ k + n ≤ s.size ∧ (srt (bt s k) = 1 ∨ srt (bt s k) = 2) ∧ (∀ j, k < j → j < k + n → srt (bt s j) = srt (bt s k) ∨ srt (bt s j) = 4) ∧
    (k + n = s.size ∨ n = 12 ∨ (srt (bt s (k + n)) ≠ srt (bt s k) ∧ srt (bt s (k + n)) ≠ 4)))

/-- n digits stand at k, as far as they can, four at most. -/
def DigitsAt (s : ByteArray) (k n : Nat) : Prop :=
  n ≤ 4 ∧ k + n ≤ s.size ∧ (∀ j, k ≤ j → j < k + n → srt (bt s j) = 3) ∧ (k + n = s.size ∨ n = 4 ∨ srt (bt s (k + n)) ≠ 3)

/-- the number that n digits at k write. -/
def num (s : ByteArray) (k : Nat) : Nat → Nat
  | 0 => 0
  | n + 1 => 10 * num s k n + (bt s (k + n) - 48)

theorem num_le (s : ByteArray) (k n : Nat) (h : ∀ j, k ≤ j → j < k + n → srt (bt s j) = 3) : num s k n + 1 ≤ 10 ^ n := by
  induction n with
  | zero => simp [num]
  | succ n ih =>
    have h1 := ih fun j hj hj' => h j hj (by omega)
    have h2 := srt_3.1 (h (k + n) (by omega) (by omega))
    simp only [num, Nat.pow_succ]
    omega

theorem num_4 (s : ByteArray) (k n : Nat) (hn : n ≤ 4) (h : ∀ j, k ≤ j → j < k + n → srt (bt s j) = 3) : num s k n ≤ 9999 := by
  have h1 := num_le s k n h
  have h2 : 10 ^ n ≤ 10 ^ 4 := Nat.pow_le_pow_right (by omega) hn
  have h3 : (10 : Nat) ^ 4 = 10000 := rfl
  omega

theorem num_extract (s : ByteArray) (a b n : Nat) (h : n ≤ b - a) (hb : b ≤ s.size) : num (s.extract a b) 0 n = num s a n := by
  induction n with
  | zero => rfl
  | succ n ih =>
    simp only [num, Nat.zero_add]
    rw [ih (by omega), bt_extract _ _ _ _ (by omega) hb]

/-- what a list says of one word. -/
structure Ent where
  word : ByteArray
  inn : Bool
  cost : Nat
  dig : Nat

def GoodEntry (s : ByteArray) (k : Nat) (x : Ent) (p : Nat) : Prop :=
  ∃ n, WordAt s k n ∧ 1 ≤ n ∧ k + n < s.size ∧ x.word = s.extract k (k + n) ∧
    ((bt s (k + n) = 33 ∧ x.inn = false ∧ x.cost = 0 ∧ x.dig = 0 ∧ p = k + n + 1) ∨
     (bt s (k + n) = 61 ∧ ∃ m, 1 ≤ m ∧ DigitsAt s (k + n + 1) m ∧ x.inn = true ∧ x.cost = num s (k + n + 1) m ∧ x.dig = k + n + 1 ∧ p = k + n + 1 + m))

def BadEntry (s : ByteArray) (k p : Nat) : Prop :=
  ∃ n, WordAt s k n ∧ (((n = 0 ∨ k + n = s.size) ∧ p = k + n) ∨ (1 ≤ n ∧ k + n < s.size ∧ bt s (k + n) ≠ 33 ∧ bt s (k + n) ≠ 61 ∧ p = k + n) ∨
    (1 ≤ n ∧ k + n < s.size ∧ bt s (k + n) = 61 ∧ DigitsAt s (k + n + 1) 0 ∧ p = k + n + 1))

theorem WordAt.le {s : ByteArray} {k n : Nat} (h : WordAt s k n) : n ≤ 12 ∧ (1 ≤ n → k + n ≤ s.size) := by
  rcases h with ⟨rfl, _⟩ | ⟨h1, h2, h3, _⟩
  · omega
  · omega

theorem DigitsAt.le {s : ByteArray} {k n : Nat} (h : DigitsAt s k n) : n ≤ 4 ∧ k + n ≤ s.size := ⟨h.1, h.2.1⟩

/-- the entries E, each with a comma behind it, lead from k to q. -/
def Chain (s : ByteArray) : Nat → List Ent → Nat → Prop
  | k, [], q => q = k
  | k, x :: E, q => ∃ p, GoodEntry s k x p ∧ p < s.size ∧ bt s p = 44 ∧ Chain s (p + 1) E q

theorem Chain.snoc {s : ByteArray} {x : Ent} {p q : Nat} : ∀ {E : List Ent} {k : Nat}, Chain s k E q → GoodEntry s q x p → p < s.size → bt s p = 44 → Chain s k (E ++ [x]) (p + 1)
  | [], k, h, hg, hp, hb => by cases h; exact ⟨p, hg, hp, hb, rfl⟩
  | y :: E, k, h, hg, hp, hb => by
    obtain ⟨r, h1, h2, h3, h4⟩ := h
    exact ⟨r, h1, h2, h3, Chain.snoc h4 hg hp hb⟩

def GoodList (s : ByteArray) (E : List Ent) : Prop :=
  (E = [] ∧ s.size = 0) ∨ ∃ E' x q, E = E' ++ [x] ∧ Chain s 0 E' q ∧ GoodEntry s q x s.size

def BadList (s : ByteArray) (p : Nat) : Prop :=
  ∃ E q, Chain s 0 E q ∧ ((q < s.size ∧ BadEntry s q p) ∨ (∃ x, GoodEntry s q x p ∧ p < s.size ∧ bt s p ≠ 44) ∨ (q = s.size ∧ q ≠ 0 ∧ p = q))

theorem GoodEntry.le {s : ByteArray} {k p : Nat} {x : Ent} (h : GoodEntry s k x p) : k + 2 ≤ p ∧ p ≤ s.size ∧ x.cost ≤ 9999 ∧ x.dig ≤ s.size := by
  obtain ⟨n, hw, h1, h2, _, h3⟩ := h
  rcases h3 with ⟨_, _, h4, h5, h6⟩ | ⟨_, m, h3, h4, _, h5, h6, h7⟩
  · omega
  · have h8 := h4.le
    have h9 := num_4 s (k + n + 1) m h8.1 h4.2.2.1
    omega

theorem BadEntry.le {s : ByteArray} {k p : Nat} (h : BadEntry s k p) (hk : k ≤ s.size) : k ≤ p ∧ p ≤ s.size := by
  obtain ⟨n, hw, h3⟩ := h
  have h1 := hw.le
  rcases h3 with ⟨h4, h5⟩ | ⟨h2, h4, _, _, h5⟩ | ⟨h2, h4, _, _, h5⟩
  · rcases h4 with h | h <;> omega
  · omega
  · omega

end Go.Proofs.YtdofjmfbkpdppaaDoor
/-
  Plain mathematics: words in their order; dictionaries.
-/
namespace Go.Proofs.YtdofjmfbkpdppaaDoor
set_option linter.unusedSimpArgs false
set_option linter.unusedVariables false

theorem bl_irrefl : ∀ l : List UInt8, Op.bytesLess l l = false
  | [] => rfl
  | a :: l => by simp [Op.bytesLess, bl_irrefl l]

theorem bl_trans : ∀ a b c : List UInt8, Op.bytesLess a b = true → Op.bytesLess b c = true → Op.bytesLess a c = true
  | _, [], _, h, _ => by simp [Op.bytesLess] at h
  | _, _ :: _, [], _, h => by simp [Op.bytesLess] at h
  | [], _ :: _, _ :: _, _, _ => rfl
  | x :: a, y :: b, z :: c, h, k => by
    simp only [Op.bytesLess, Bool.or_eq_true, Bool.and_eq_true, decide_eq_true_eq, beq_iff_eq] at h k ⊢
    rcases h with h | ⟨rfl, h⟩
    · rcases k with k | ⟨rfl, k⟩
      · exact .inl (UInt8.lt_trans h k)
      · exact .inl h
    · rcases k with k | ⟨rfl, k⟩
      · exact .inl k
      · exact .inr ⟨rfl, bl_trans a b c h k⟩

theorem bl_tri : ∀ a b : List UInt8, Op.bytesLess a b = false → Op.bytesLess b a = false → a = b
  | [], [], _, _ => rfl
  | [], _ :: _, h, _ => by simp [Op.bytesLess] at h
  | _ :: _, [], _, h => by simp [Op.bytesLess] at h
  | x :: a, y :: b, h, k => by
    simp only [Op.bytesLess, Bool.or_eq_false_iff, Bool.and_eq_false_iff, decide_eq_false_iff_not, beq_eq_false_iff_ne] at h k
    have hxy : x = y := UInt8.le_antisymm (UInt8.not_lt.1 k.1) (UInt8.not_lt.1 h.1)
    subst hxy
    rw [bl_tri a b (by rcases h.2 with h | h; exact absurd rfl h; exact h) (by rcases k.2 with h | h; exact absurd rfl h; exact h)]

/-- a word that begins another stands ahead of it. -/
theorem bl_prefix : ∀ (a b : List UInt8), b ≠ [] → Op.bytesLess a (a ++ b) = true
  | [], [], h => absurd rfl h
  | [], _ :: _, _ => rfl
  | x :: a, b, h => by simp [Op.bytesLess, bl_prefix a b h]

theorem ba_ext {a b : ByteArray} (h : a.toList = b.toList) : a = b := by
  rw [ByteArray.toList_eq, ByteArray.toList_eq] at h
  obtain ⟨⟨a⟩⟩ := a
  obtain ⟨⟨b⟩⟩ := b
  simp at h
  rw [h]

def wl (a b : ByteArray) : Bool := Op.bytesLess a.toList b.toList
theorem wl_irrefl (a : ByteArray) : wl a a = false := bl_irrefl _
theorem wl_trans {a b c : ByteArray} : wl a b = true → wl b c = true → wl a c = true := bl_trans _ _ _
theorem wl_tri {a b : ByteArray} (h : wl a b = false) (k : wl b a = false) : a = b := ba_ext (bl_tri _ _ h k)
theorem wl_asymm {a b : ByteArray} (h : wl a b = true) : wl b a = false := by
  cases e : wl b a with
  | false => rfl
  | true => have := wl_trans h e; rw [wl_irrefl] at this; cases this
theorem wl_ne {a b : ByteArray} (h : wl a b = true) : a ≠ b := fun e => by rw [e, wl_irrefl] at h; cases h

abbrev Dic := List (ByteArray × Nat)

def Srt (D : Dic) : Prop := D.Pairwise fun a b => wl a.1 b.1 = true

theorem srt_unique : ∀ {D D' : Dic}, Srt D → Srt D' → (∀ p, p ∈ D ↔ p ∈ D') → D = D'
  | [], [], _, _, _ => rfl
  | [], p :: D', _, _, h => by have := (h p).2 (List.mem_cons_self); cases this
  | p :: D, [], _, _, h => by have := (h p).1 (List.mem_cons_self); cases this
  | p :: D, q :: D', hD, hD', h => by
    obtain ⟨h1, h2⟩ := List.pairwise_cons.1 hD
    obtain ⟨h3, h4⟩ := List.pairwise_cons.1 hD'
    have e : p = q := by
      rcases List.mem_cons.1 ((h p).1 List.mem_cons_self) with e | e
      · exact e
      · rcases List.mem_cons.1 ((h q).2 List.mem_cons_self) with e' | e'
        · exact e'.symm
        · have a := h1 q e'
          have b := h3 p e
          rw [wl_asymm a] at b
          cases b
    subst e
    rw [srt_unique h2 h4]
    intro x
    constructor
    · intro hx
      rcases List.mem_cons.1 ((h x).1 (List.mem_cons_of_mem _ hx)) with e | e
      · subst e
        have := h1 x hx
        rw [wl_irrefl] at this
        cases this
      · exact e
    · intro hx
      rcases List.mem_cons.1 ((h x).2 (List.mem_cons_of_mem _ hx)) with e | e
      · subst e
        have := h3 x hx
        rw [wl_irrefl] at this
        cases this
      · exact e

/-- of one word there is one cost. -/
theorem srt_one {D : Dic} (h : Srt D) {w : ByteArray} {c c' : Nat} (h1 : (w, c) ∈ D) (h2 : (w, c') ∈ D) : c = c' := by
  induction D with
  | nil => cases h1
  | cons p D ih =>
    obtain ⟨a, b⟩ := List.pairwise_cons.1 h
    rcases List.mem_cons.1 h1 with e1 | e1
    · rcases List.mem_cons.1 h2 with e2 | e2
      · rw [← e1] at e2; cases e2; rfl
      · have := a _ e2; rw [← e1] at this; simp [wl_irrefl] at this
    · rcases List.mem_cons.1 h2 with e2 | e2
      · have := a _ e1; rw [← e2] at this; simp [wl_irrefl] at this
      · exact ih b e1 e2

/-- where a word stands, or would have to be put. -/
def SplitAt (D : Dic) (w : ByteArray) (k : Nat) : Prop :=
  k ≤ D.length ∧ (∀ j (h : j < D.length), j < k → wl D[j].1 w = true) ∧ ∀ j (h : j < D.length), k ≤ j → wl D[j].1 w = false

theorem SplitAt.parts {D : Dic} {w : ByteArray} {k : Nat} (h : SplitAt D w k) : ∃ L R, D = L ++ R ∧ L.length = k ∧ (∀ p ∈ L, wl p.1 w = true) ∧ (∀ p ∈ R, wl p.1 w = false) := by
  obtain ⟨h0, h1, h2⟩ := h
  refine ⟨D.take k, D.drop k, (List.take_append_drop k D).symm, by simp; omega, ?_, ?_⟩
  · intro p hp
    obtain ⟨j, hj, rfl⟩ := List.mem_iff_getElem.1 hp
    simp at hj
    rw [List.getElem_take]
    exact h1 j (by omega) (by omega)
  · intro p hp
    obtain ⟨j, hj, rfl⟩ := List.mem_iff_getElem.1 hp
    simp at hj
    rw [List.getElem_drop]
    exact h2 (k + j) (by omega) (by omega)

theorem srt_insert {L R : Dic} {w : ByteArray} (c : Nat) (h : Srt (L ++ R)) (h1 : ∀ p ∈ L, wl p.1 w = true) (h2 : ∀ p ∈ R, wl w p.1 = true) : Srt (L ++ (w, c) :: R) := by
  unfold Srt at h ⊢
  rw [List.pairwise_append] at h ⊢
  obtain ⟨a, b, d⟩ := h
  refine ⟨a, List.pairwise_cons.2 ⟨fun p hp => h2 p hp, b⟩, fun x hx y hy => ?_⟩
  rcases List.mem_cons.1 hy with e | e
  · rw [e]; exact h1 x hx
  · exact d x hx y e

theorem srt_erase {L R : Dic} {p : ByteArray × Nat} (h : Srt (L ++ p :: R)) : Srt (L ++ R) := by
  unfold Srt at h ⊢
  rw [List.pairwise_append] at h ⊢
  obtain ⟨a, b, d⟩ := h
  exact ⟨a, (List.pairwise_cons.1 b).2, fun x hx y hy => d x hx y (List.mem_cons_of_mem _ hy)⟩

/-- the one that is found: the rest lies behind it. -/
theorem found_split {L R : Dic} {w : ByteArray} {c : Nat} (h : Srt (L ++ (w, c) :: R)) : (∀ p ∈ L, wl p.1 w = true) ∧ ∀ p ∈ R, wl w p.1 = true := by
  unfold Srt at h
  rw [List.pairwise_append] at h
  obtain ⟨_, b, d⟩ := h
  exact ⟨fun p hp => d p hp _ List.mem_cons_self, (List.pairwise_cons.1 b).1⟩

/-! what entries say -/
def stepE (x : Ent) (w : ByteArray) (o : Option Nat) : Option Nat := if x.word = w then (if x.inn = true then some x.cost else none) else o
def eff (E : List Ent) (w : ByteArray) : Option Nat := E.foldl (fun o x => stepE x w o) none
theorem eff_snoc (E : List Ent) (x : Ent) (w : ByteArray) : eff (E ++ [x]) w = stepE x w (eff E w) := by simp [eff]

def Rep (D : Dic) (E : List Ent) : Prop := Srt D ∧ ∀ w c, (w, c) ∈ D ↔ eff E w = some c

theorem Rep.nil : Rep [] [] := ⟨List.Pairwise.nil, fun w c => by simp [eff]⟩

theorem Rep.unique {D D' : Dic} {E : List Ent} (h : Rep D E) (h' : Rep D' E) : D = D' :=
  srt_unique h.1 h'.1 fun p => by rw [show p = (p.1, p.2) from rfl, h.2, h'.2]

theorem mem_insert {L R : Dic} {w v : ByteArray} {c d : Nat} : (v, d) ∈ L ++ (w, c) :: R ↔ (v = w ∧ d = c) ∨ (v, d) ∈ L ++ R := by
  simp only [List.mem_append, List.mem_cons, Prod.mk.injEq]
  constructor
  · rintro (h | ⟨rfl, rfl⟩ | h)
    · exact .inr (.inl h)
    · exact .inl ⟨rfl, rfl⟩
    · exact .inr (.inr h)
  · rintro (⟨rfl, rfl⟩ | h | h)
    · exact .inr (.inl ⟨rfl, rfl⟩)
    · exact .inl h
    · exact .inr (.inr h)

theorem Rep.put_new {L R : Dic} {E : List Ent} {x : Ent} (h : Rep (L ++ R) E) (hx : x.inn = true) (h1 : ∀ p ∈ L, wl p.1 x.word = true) (h2 : ∀ p ∈ R, wl x.word p.1 = true) : Rep (L ++ (x.word, x.cost) :: R) (E ++ [x]) := by
  obtain ⟨hs, hm⟩ := h
  refine ⟨srt_insert _ hs h1 h2, fun w c => ?_⟩
  rw [mem_insert, eff_snoc, hm]
  unfold stepE
  by_cases e : x.word = w
  · subst e
    rw [if_pos rfl, if_pos hx]
    constructor
    · rintro (⟨_, rfl⟩ | h)
      · rfl
      · rw [← hm, List.mem_append] at h
        rcases h with h | h
        · exact absurd rfl (wl_ne (h1 _ h))
        · exact absurd rfl (wl_ne (h2 _ h)).symm
    · intro h; cases h; exact .inl ⟨rfl, rfl⟩
  · rw [if_neg e]
    constructor
    · rintro (⟨rfl, _⟩ | h)
      · exact absurd rfl e
      · exact h
    · exact .inr

theorem Rep.put_old {L R : Dic} {E : List Ent} {x : Ent} {c0 : Nat} (h : Rep (L ++ (x.word, c0) :: R) E) (hx : x.inn = true) : Rep (L ++ (x.word, x.cost) :: R) (E ++ [x]) := by
  obtain ⟨hs, hm⟩ := h
  obtain ⟨h1, h2⟩ := found_split hs
  refine ⟨srt_insert _ (srt_erase hs) h1 h2, fun w c => ?_⟩
  rw [mem_insert, eff_snoc]
  unfold stepE
  by_cases e : x.word = w
  · subst e
    rw [if_pos rfl, if_pos hx]
    constructor
    · rintro (⟨_, rfl⟩ | h)
      · rfl
      · rw [List.mem_append] at h
        rcases h with h | h
        · exact absurd rfl (wl_ne (h1 _ h))
        · exact absurd rfl (wl_ne (h2 _ h)).symm
    · intro h; cases h; exact .inl ⟨rfl, rfl⟩
  · rw [if_neg e, ← hm, mem_insert]
    constructor
    · rintro (⟨rfl, _⟩ | h)
      · exact absurd rfl e
      · exact .inr h
    · rintro (⟨rfl, _⟩ | h)
      · exact absurd rfl e
      · exact .inr h

theorem Rep.drop_old {L R : Dic} {E : List Ent} {x : Ent} {c0 : Nat} (h : Rep (L ++ (x.word, c0) :: R) E) (hx : x.inn = false) : Rep (L ++ R) (E ++ [x]) := by
  obtain ⟨hs, hm⟩ := h
  obtain ⟨h1, h2⟩ := found_split hs
  refine ⟨srt_erase hs, fun w c => ?_⟩
  rw [eff_snoc]
  unfold stepE
  by_cases e : x.word = w
  · subst e
    rw [if_pos rfl, hx]
    simp only [Bool.false_eq_true, if_false]
    constructor
    · intro h
      rw [List.mem_append] at h
      rcases h with h | h
      · exact absurd rfl (wl_ne (h1 _ h))
      · exact absurd rfl (wl_ne (h2 _ h)).symm
    · intro h; cases h
  · rw [if_neg e, ← hm, mem_insert]
    constructor
    · exact .inr
    · rintro (⟨rfl, _⟩ | h)
      · exact absurd rfl e
      · exact h

theorem Rep.drop_none {D : Dic} {E : List Ent} {x : Ent} (h : Rep D E) (hx : x.inn = false) (hn : ∀ c, (x.word, c) ∉ D) : Rep D (E ++ [x]) := by
  obtain ⟨hs, hm⟩ := h
  refine ⟨hs, fun w c => ?_⟩
  rw [eff_snoc]
  unfold stepE
  by_cases e : x.word = w
  · subst e
    rw [if_pos rfl, hx]
    simp only [Bool.false_eq_true, if_false]
    constructor
    · intro h; exact absurd h (hn c)
    · intro h; cases h
  · rw [if_neg e]; exact hm w c

/-! from the last entry on -/
def Has (S : List Ent) (w : ByteArray) : Prop := ∃ y ∈ S, y.word = w

theorem foldl_has (S : List Ent) (w : ByteArray) (o : Option Nat) : (Has S w → S.foldl (fun o x => stepE x w o) o = eff S w) ∧ (¬ Has S w → S.foldl (fun o x => stepE x w o) o = o) := by
  induction S generalizing o with
  | nil => exact ⟨(fun h => by obtain ⟨y, hy, _⟩ := h; cases hy), fun _ => rfl⟩
  | cons x S ih =>
    by_cases hS : Has S w
    · refine ⟨fun _ => ?_, fun h => absurd ?_ h⟩
      · show S.foldl _ (stepE x w o) = S.foldl _ (stepE x w none)
        rw [(ih _).1 hS, (ih _).1 hS]
      · obtain ⟨y, hy, e⟩ := hS; exact ⟨y, List.mem_cons_of_mem _ hy, e⟩
    · refine ⟨fun h => ?_, fun h => ?_⟩
      · show S.foldl _ (stepE x w o) = S.foldl _ (stepE x w none)
        rw [(ih _).2 hS, (ih _).2 hS]
        obtain ⟨y, hy, e⟩ := h
        rcases List.mem_cons.1 hy with rfl | hy
        · simp [stepE, e]
        · exact absurd ⟨y, hy, e⟩ hS
      · show S.foldl _ (stepE x w o) = o
        rw [(ih _).2 hS]
        have : x.word ≠ w := fun e => h ⟨x, List.mem_cons_self, e⟩
        simp [stepE, this]

theorem eff_cons_has {S : List Ent} {x : Ent} {w : ByteArray} (h : Has S w) : eff (x :: S) w = eff S w := (foldl_has S w (stepE x w none)).1 h
theorem eff_cons_no {S : List Ent} {x : Ent} {w : ByteArray} (h : ¬ Has S w) : eff (x :: S) w = stepE x w none := (foldl_has S w (stepE x w none)).2 h
theorem eff_no {S : List Ent} {w : ByteArray} (h : ¬ Has S w) : eff S w = none := (foldl_has S w none).2 h

theorem Rep.cons_met {D : Dic} {S : List Ent} {x : Ent} (h : Rep D S) (hx : Has S x.word) : Rep D (x :: S) := by
  refine ⟨h.1, fun w c => ?_⟩
  rw [h.2]
  by_cases hw : Has S w
  · rw [eff_cons_has hw]
  · rw [eff_cons_no hw, eff_no hw]
    have : x.word ≠ w := fun e => hw (e ▸ hx)
    simp [stepE, this]

theorem Rep.cons_out {D : Dic} {S : List Ent} {x : Ent} (h : Rep D S) (hi : x.inn = false) : Rep D (x :: S) := by
  refine ⟨h.1, fun w c => ?_⟩
  rw [h.2]
  by_cases hw : Has S w
  · rw [eff_cons_has hw]
  · rw [eff_cons_no hw, eff_no hw]
    simp [stepE, hi]

theorem Rep.cons_in {L R : Dic} {S : List Ent} {x : Ent} (h : Rep (L ++ R) S) (hn : ¬ Has S x.word) (hi : x.inn = true) (h1 : ∀ p ∈ L, wl p.1 x.word = true) (h2 : ∀ p ∈ R, wl x.word p.1 = true) : Rep (L ++ (x.word, x.cost) :: R) (x :: S) := by
  refine ⟨srt_insert _ h.1 h1 h2, fun w c => ?_⟩
  rw [mem_insert, h.2]
  by_cases hw : Has S w
  · rw [eff_cons_has hw]
    constructor
    · rintro (⟨rfl, _⟩ | h)
      · exact absurd hw hn
      · exact h
    · exact .inr
  · rw [eff_cons_no hw, eff_no hw]
    unfold stepE
    by_cases e : x.word = w
    · subst e
      rw [if_pos rfl, if_pos hi]
      constructor
      · rintro (⟨_, rfl⟩ | h)
        · rfl
        · cases h
      · intro h; cases h; exact .inl ⟨rfl, rfl⟩
    · rw [if_neg e]
      constructor
      · rintro (⟨rfl, _⟩ | h)
        · exact absurd rfl e
        · exact h
      · exact .inr

end Go.Proofs.YtdofjmfbkpdppaaDoor
/-
  Plain mathematics: images.
-/
namespace Go.Proofs.YtdofjmfbkpdppaaDoor
set_option linter.unusedSimpArgs false
set_option linter.unusedVariables false

def twoL (n : Nat) : List UInt8 := [UInt8.ofNat (n % 256), UInt8.ofNat (n / 256)]

/-- how many bytes two words have in common at their beginning. -/
def lcpL : List UInt8 → List UInt8 → Nat
  | a :: x, b :: y => if a = b then lcpL x y + 1 else 0
  | _, _ => 0

theorem lcpL_le : ∀ x y : List UInt8, lcpL x y ≤ x.length ∧ lcpL x y ≤ y.length
  | [], y => by simp [lcpL]
  | _ :: _, [] => by simp [lcpL]
  | a :: x, b :: y => by
    have := lcpL_le x y
    simp only [lcpL]
    split <;> simp <;> omega

/-- what tells it. -/
def IsLcp (x y : List UInt8) (n : Nat) : Prop := n ≤ x.length ∧ n ≤ y.length ∧ (∀ j, j < n → x[j]? = y[j]?) ∧ (n = x.length ∨ n = y.length ∨ x[n]? ≠ y[n]?)

theorem IsLcp.eq : ∀ {x y : List UInt8} {n : Nat}, IsLcp x y n → n = lcpL x y
  | [], y, n, h => by obtain ⟨h1, _⟩ := h; simp at h1; subst h1; simp [lcpL]
  | a :: x, [], n, h => by obtain ⟨_, h1, _⟩ := h; simp at h1; subst h1; simp [lcpL]
  | a :: x, b :: y, 0, h => by
    obtain ⟨_, _, _, h⟩ := h
    simp only [lcpL]
    rcases h with h | h | h
    · simp at h
    · simp at h
    · simp at h; rw [if_neg h]
  | a :: x, b :: y, n + 1, h => by
    obtain ⟨h1, h2, h3, h4⟩ := h
    have e : a = b := by have := h3 0 (by omega); simpa using this
    simp only [lcpL]
    rw [if_pos e]
    have : IsLcp x y n := ⟨by simpa using h1, by simpa using h2, fun j hj => by have := h3 (j + 1) (by omega); simpa using this, by
      rcases h4 with h | h | h
      · exact .inl (by simpa using h)
      · exact .inr (.inl (by simpa using h))
      · exact .inr (.inr (by simpa using h))⟩
    rw [this.eq]

def prevW (D : Dic) (i : Nat) : List UInt8 := match i with
  | 0 => []
  | j + 1 => (D.getD j (ByteArray.empty, 0)).1.toList

def encE (prev w : List UInt8) (c : Nat) : List UInt8 := [UInt8.ofNat (lcpL prev w), UInt8.ofNat (w.length - lcpL prev w)] ++ w.drop (lcpL prev w) ++ twoL c

def encTo (D : Dic) : Nat → List UInt8
  | 0 => [87, 67] ++ twoL D.length
  | i + 1 => encTo D i ++ encE (prevW D i) (D.getD i (ByteArray.empty, 0)).1.toList (D.getD i (ByteArray.empty, 0)).2

def sumL (l : List UInt8) : UInt8 := l.foldl (fun s b => s - b) 0

def imageL (D : Dic) : List UInt8 := encTo D D.length ++ [sumL (encTo D D.length)]

theorem encE_length (p w : List UInt8) (c : Nat) : (encE p w c).length ≤ w.length + 4 := by
  have := lcpL_le p w
  simp [encE, twoL]

theorem encTo_length {D : Dic} (hw : ∀ p ∈ D, p.1.size ≤ 12) : ∀ i, i ≤ D.length → (encTo D i).length ≤ 4 + i * 16
  | 0, _ => by simp [encTo, twoL]
  | i + 1, h => by
    have h1 := encTo_length hw i (by omega)
    have h2 := encE_length (prevW D i) (D.getD i (ByteArray.empty, 0)).1.toList (D.getD i (ByteArray.empty, 0)).2
    have h3 : (D.getD i (ByteArray.empty, 0)).1.toList.length ≤ 12 := by
      rw [List.getD_eq_getElem?_getD, List.getElem?_eq_getElem (show i < D.length by omega), Option.getD_some, ByteArray.toList_eq]
      exact hw _ (List.getElem_mem (by omega))
    simp only [encTo, List.length_append]
    omega

theorem toList_append (a b : ByteArray) : (a ++ b).toList = a.toList ++ b.toList := by
  rw [ByteArray.toList_eq, ByteArray.toList_eq, ByteArray.toList_eq]
  simp [ByteArray.data_append]

theorem toList_length (a : ByteArray) : a.toList.length = a.size := by rw [ByteArray.toList_eq]; rfl

theorem toList_get (a : ByteArray) (i : Nat) (h : i < a.size) : a.toList[i]? = some a[i] := by
  rw [ByteArray.toList_eq]
  have h' : i < a.data.toList.length := by simpa using h
  rw [List.getElem?_eq_getElem h']
  rfl

end Go.Proofs.YtdofjmfbkpdppaaDoor
/-
  Plain mathematics: what can be read of a text that may be an image.
-/
namespace Go.Proofs.YtdofjmfbkpdppaaDoor
set_option linter.unusedSimpArgs false
set_option linter.unusedVariables false

/-- what is read from a place on: the last word that was read; how many steps at most. -/
def guessG (s : ByteArray) : Nat → Nat → ByteArray → Dic
  | 0, _, _ => []
  | f + 1, at', last =>
    if at' + 5 ≤ s.size ∧ bt s at' ≤ last.size ∧ at' + 2 + bt s (at' + 1) + 3 ≤ s.size then
      (last.extract 0 (bt s at') ++ s.extract (at' + 2) (at' + 2 + bt s (at' + 1)), bt s (at' + 2 + bt s (at' + 1)) + 256 * bt s (at' + 2 + bt s (at' + 1) + 1)) ::
        guessG s f (at' + 2 + bt s (at' + 1) + 2) (last.extract 0 (bt s at') ++ s.extract (at' + 2) (at' + 2 + bt s (at' + 1)))
    else []

def guessD (s : ByteArray) : Dic := guessG s s.size 4 ByteArray.empty

theorem guessG_stop {s : ByteArray} {f k : Nat} {last : ByteArray} (h : ¬ (k + 5 ≤ s.size ∧ bt s k ≤ last.size ∧ k + 2 + bt s (k + 1) + 3 ≤ s.size)) : guessG s f k last = [] := by
  cases f with
  | zero => rfl
  | succ f => simp only [guessG]; rw [if_neg h]

theorem guessG_step {s : ByteArray} {f k : Nat} {last : ByteArray} (hf : s.size ≤ f + k) (h1 : k + 5 ≤ s.size) (h2 : bt s k ≤ last.size) (h3 : k + 2 + bt s (k + 1) + 3 ≤ s.size) :
    ∃ f', s.size ≤ f' + (k + 2 + bt s (k + 1) + 2) ∧ guessG s f k last =
      (last.extract 0 (bt s k) ++ s.extract (k + 2) (k + 2 + bt s (k + 1)), bt s (k + 2 + bt s (k + 1)) + 256 * bt s (k + 2 + bt s (k + 1) + 1)) ::
        guessG s f' (k + 2 + bt s (k + 1) + 2) (last.extract 0 (bt s k) ++ s.extract (k + 2) (k + 2 + bt s (k + 1))) := by
  cases f with
  | zero => omega
  | succ f => exact ⟨f, by omega, by simp only [guessG]; rw [if_pos ⟨h1, h2, h3⟩]⟩

end Go.Proofs.YtdofjmfbkpdppaaDoor
/-
  Plain mathematics: the reference's automaton.
-/
namespace Go.Proofs.YtdofjmfbkpdppaaDoor
set_option linter.unusedSimpArgs false
set_option linter.unusedVariables false

/-! the reference: the form of a list by states -/
def smB (c : Nat) : Bool := decide (97 ≤ c ∧ c ≤ 122)
def cpB (c : Nat) : Bool := decide (65 ≤ c ∧ c ≤ 90)
def dgB (c : Nat) : Bool := decide (48 ≤ c ∧ c ≤ 57)

structure St where
  st : Nat
  n : Nat
  sm : Bool
  cost : Nat

def lts (f : St) (c : Nat) : St × Bool :=
  if (((c : Int) == 126 || (f.sm && smB c)) || (!f.sm && cpB c)) && decide (f.n < 12) then (⟨f.st, f.n + 1, f.sm, f.cost⟩, true)
  else if (c : Int) == 61 then (⟨3, 0, false, 0⟩, true) else if (c : Int) == 33 then (⟨5, 0, false, 0⟩, true) else (f, false)

def nxt (f : St) (c : Nat) : St × Bool :=
  if f.st = 0 ∨ f.st = 1 then (⟨2, 1, smB c, 0⟩, smB c || cpB c)
  else if f.st = 2 then lts f c
  else if f.st = 5 then (⟨1, 0, false, 0⟩, (c : Int) == 44)
  else if dgB c && decide (f.n < 4) then (⟨4, f.n + 1, false, 10 * f.cost + (c - 48)⟩, true)
  else (⟨1, 0, false, 0⟩, f.st == 4 && (c : Int) == 44)

theorem kinds (c : Nat) :
    (smB c = false ∧ cpB c = false ∧ ((c : Int) == 126) = true ∧ ((c : Int) == 61) = false ∧ ((c : Int) == 33) = false) ∨
    (smB c = false ∧ cpB c = false ∧ ((c : Int) == 126) = false ∧ ((c : Int) == 61) = true ∧ ((c : Int) == 33) = false) ∨
    (smB c = false ∧ cpB c = false ∧ ((c : Int) == 126) = false ∧ ((c : Int) == 61) = false ∧ ((c : Int) == 33) = true) ∨
    (smB c = true ∧ cpB c = false ∧ ((c : Int) == 126) = false ∧ ((c : Int) == 61) = false ∧ ((c : Int) == 33) = false) ∨
    (smB c = false ∧ cpB c = true ∧ ((c : Int) == 126) = false ∧ ((c : Int) == 61) = false ∧ ((c : Int) == 33) = false) ∨
    (smB c = false ∧ cpB c = false ∧ ((c : Int) == 126) = false ∧ ((c : Int) == 61) = false ∧ ((c : Int) == 33) = false) := by
  simp only [smB, cpB, beq_iff_eq, beq_eq_false_iff_ne, ne_eq, decide_eq_true_eq, decide_eq_false_iff_not]
  omega

/-- the state behind the first i bytes; none: one of them cannot stand there. -/
def stp (s : ByteArray) : Nat → Option St
  | 0 => some ⟨0, 0, false, 0⟩
  | i + 1 => match stp s i with
    | none => none
    | some f => if (nxt f (bt s i)).2 then some (nxt f (bt s i)).1 else none

theorem stp_succ {s : ByteArray} {i : Nat} {f : St} (h : stp s i = some f) : stp s (i + 1) = if (nxt f (bt s i)).2 then some (nxt f (bt s i)).1 else none := by
  simp only [stp, h]

/-- where the first digit of the first cost above its bound stands, within the first i bytes; -1: nowhere. -/
def hgh (s : ByteArray) : Nat → Int
  | 0 => -1
  | i + 1 => match stp s (i + 1) with
    | none => hgh s i
    | some f => if 1000 < f.cost ∧ hgh s i < 0 then (i : Int) - f.n + 1 else hgh s i

theorem hgh_succ {s : ByteArray} {i : Nat} {f : St} (h : stp s (i + 1) = some f) : hgh s (i + 1) = if 1000 < f.cost ∧ hgh s i < 0 then (i : Int) - f.n + 1 else hgh s i := by
  simp only [hgh, h]

def Inv (f : St) : Prop := f.st ≤ 5 ∧ f.n ≤ 12 ∧ (f.st = 4 → f.cost + 1 ≤ 10 ^ f.n ∧ f.n ≤ 4) ∧ (f.st ≠ 4 → f.cost = 0) ∧ (f.st = 3 → f.n = 0)

theorem dgB_iff {c : Nat} : dgB c = true ↔ 48 ≤ c ∧ c ≤ 57 := by simp [dgB]
theorem smB_iff {c : Nat} : smB c = true ↔ 97 ≤ c ∧ c ≤ 122 := by simp [smB]
theorem cpB_iff {c : Nat} : cpB c = true ↔ 65 ≤ c ∧ c ≤ 90 := by simp [cpB]

theorem Inv.next {f : St} {c : Nat} (h : Inv f) (hok : (nxt f c).2 = true) : Inv (nxt f c).1 := by
  obtain ⟨st, n, sm, cost⟩ := f
  obtain ⟨h1, h2, h3, h4, h5⟩ := h
  simp only at h1 h2 h3 h4 h5
  unfold nxt at hok ⊢
  simp only at hok ⊢
  split
  · simp [Inv]
  · rename_i ha
    rw [if_neg ha] at hok
    split
    · rename_i hb
      subst hb
      have hc := h4 (by omega)
      subst hc
      simp only [if_true] at hok
      unfold lts at hok ⊢
      simp only at hok ⊢
      split
      · rename_i hd
        simp only [Bool.and_eq_true, decide_eq_true_eq] at hd
        exact ⟨by simp, by simp; omega, by simp, by simp, by simp⟩
      · rename_i hd
        rw [if_neg hd] at hok
        split
        · simp [Inv]
        · rename_i he
          rw [if_neg he] at hok
          split
          · simp [Inv]
          · rename_i hf
            rw [if_neg hf] at hok
            simp at hok
    · split
      · simp [Inv]
      · rename_i hb hc
        split
        · rename_i hd
          simp only [Bool.and_eq_true, decide_eq_true_eq] at hd
          obtain ⟨hd1, hd2⟩ := hd
          rw [dgB_iff] at hd1
          refine ⟨by simp, by simp; omega, fun _ => ⟨?_, by simp; omega⟩, by simp, by simp⟩
          simp only
          by_cases e4 : st = 4
          · have := (h3 e4).1
            rw [Nat.pow_succ]
            omega
          · have := h4 e4
            have := h5 (by omega)
            subst this
            simp
            omega
        · simp [Inv]

theorem stp_inv (s : ByteArray) : ∀ i f, stp s i = some f → Inv f
  | 0, f, h => by simp [stp] at h; subst h; simp [Inv]
  | i + 1, f, h => by
    cases e : stp s i with
    | none => simp [stp, e] at h
    | some g =>
      rw [stp_succ e] at h
      have hg := stp_inv s i g e
      split at h
      · rename_i hok
        simp at h
        subst h
        exact hg.next hok
      · simp at h

theorem Inv.cost_le {f : St} (h : Inv f) : f.cost ≤ 9999 := by
  obtain ⟨h1, h2, h3, h4, h5⟩ := h
  by_cases e : f.st = 4
  · obtain ⟨a, b⟩ := h3 e
    have h2 : 10 ^ f.n ≤ 10 ^ 4 := Nat.pow_le_pow_right (by omega) b
    have h3 : (10 : Nat) ^ 4 = 10000 := rfl
    omega
  · rw [h4 e]; omega

def acc (f : St) : Prop := f.st = 0 ∨ f.st = 4 ∨ f.st = 5

/-- what the reference's Check answers. -/
def RefRes (s : ByteArray) (e p : Int) : Prop :=
  (2000 < s.size ∧ e = 1 ∧ p = 0) ∨
  (s.size ≤ 2000 ∧ ∃ (i : Nat) (f : St), i < s.size ∧ stp s i = some f ∧ stp s (i + 1) = none ∧ e = 2 ∧ p = i) ∨
  (s.size ≤ 2000 ∧ ∃ f, stp s s.size = some f ∧ ¬ acc f ∧ e = 2 ∧ p = s.size) ∨
  (s.size ≤ 2000 ∧ ∃ f, stp s s.size = some f ∧ acc f ∧ 0 ≤ hgh s s.size ∧ e = 3 ∧ p = hgh s s.size) ∨
  (s.size ≤ 2000 ∧ ∃ f, stp s s.size = some f ∧ acc f ∧ hgh s s.size < 0 ∧ e = 0 ∧ p = 0)

theorem stp_none {s : ByteArray} {i j : Nat} (h : stp s i = none) (hij : i ≤ j) : stp s j = none := by
  induction hij with
  | refl => exact h
  | step _ ih => simp only [Nat.succ_eq_add_one, stp, ih]

theorem RefRes.unique {s : ByteArray} {e p e' p' : Int} (h : RefRes s e p) (h' : RefRes s e' p') : e = e' ∧ p = p' := by
  rcases h with ⟨a, rfl, rfl⟩ | ⟨a, i, f, hi, h1, h2, rfl, rfl⟩ | ⟨a, f, h1, h2, rfl, rfl⟩ | ⟨a, f, h1, h2, h3, rfl, rfl⟩ | ⟨a, f, h1, h2, h3, rfl, rfl⟩
  all_goals rcases h' with ⟨a', rfl, rfl⟩ | ⟨a', i', f', hi', h1', h2', rfl, rfl⟩ | ⟨a', f', h1', h2', rfl, rfl⟩ | ⟨a', f', h1', h2', h3', rfl, rfl⟩ | ⟨a', f', h1', h2', h3', rfl, rfl⟩
  all_goals first
    | omega
    | (have := stp_none h2 (show i + 1 ≤ s.size by omega); rw [this] at h1'; cases h1')
    | (have := stp_none h2' (show i' + 1 ≤ s.size by omega); rw [this] at h1; cases h1)
    | (rw [h1] at h1'; cases h1'; exact absurd h2' h2)
    | (rw [h1] at h1'; cases h1'; exact absurd h2 h2')
    | skip
  refine ⟨rfl, ?_⟩
  by_cases hlt : i < i'
  · rw [stp_none h2 (show i + 1 ≤ i' by omega)] at h1'; cases h1'
  · by_cases hlt' : i' < i
    · rw [stp_none h2' (show i' + 1 ≤ i by omega)] at h1; cases h1
    · omega

end Go.Proofs.YtdofjmfbkpdppaaDoor
/-
  Plain mathematics: what is read of an image is the dictionary.
-/
namespace Go.Proofs.YtdofjmfbkpdppaaDoor
set_option linter.unusedSimpArgs false
set_option linter.unusedVariables false

theorem bt_listK (s : ByteArray) (i : Nat) : bt s i = (s.toList.getD i 0).toNat := by unfold bt; rw [ByteArray.toList_eq]

theorem bt_mid {s : ByteArray} {A B C : List UInt8} (h : s.toList = A ++ (B ++ C)) (j : Nat) (hj : j < B.length) : bt s (A.length + j) = (B.getD j 0).toNat := by
  rw [bt_listK, h]
  simp only [List.getD_eq_getElem?_getD]
  rw [List.getElem?_append_right (by omega), Nat.add_sub_cancel_left, List.getElem?_append_left hj]

theorem toList_extract (s : ByteArray) (a b : Nat) : (s.extract a b).toList = (s.toList.drop a).take (b - a) := by
  rw [ByteArray.toList_eq, ByteArray.toList_eq, ByteArray.data_extract]
  simp [Array.toList_extract, List.extract]

theorem lcp_take : ∀ x y : List UInt8, x.take (lcpL x y) = y.take (lcpL x y)
  | [], y => by simp [lcpL]
  | _ :: _, [] => by simp [lcpL]
  | a :: x, b :: y => by
    simp only [lcpL]
    split
    · rename_i e
      subst e
      rw [List.take_succ_cons, List.take_succ_cons, lcp_take x y]
    · simp

theorem encTo_prefix (D : Dic) (i : Nat) : ∀ j, i ≤ j → ∃ R, encTo D j = encTo D i ++ R := by
  intro j h
  induction h with
  | refl => exact ⟨[], by simp⟩
  | @step m _ ih =>
    obtain ⟨R, hR⟩ := ih
    refine ⟨R ++ encE (prevW D m) (D.getD m (ByteArray.empty, 0)).1.toList (D.getD m (ByteArray.empty, 0)).2, ?_⟩
    simp only [Nat.succ_eq_add_one, encTo]
    rw [hR, List.append_assoc]

def Fits (D : Dic) : Prop := ∀ p ∈ D, p.1.size < 256 ∧ p.2 < 65536

theorem u8_of {n : Nat} (h : n < 256) : (UInt8.ofNat n).toNat = n := by simp; omega

theorem guessG_image {s : ByteArray} {D : Dic} (hD : Fits D) (hs : s.toList = imageL D) : ∀ (n i : Nat), D.length - i = n → i ≤ D.length → ∀ (f : Nat) (last : ByteArray), last.toList = prevW D i → s.size ≤ f + (encTo D i).length →
    guessG s f (encTo D i).length last = D.drop i := by
  intro n
  induction n with
  | zero =>
    intro i hn hi f last _ _
    obtain rfl : i = D.length := by omega
    rw [guessG_stop, List.drop_length]
    intro h
    have := toList_length s
    rw [hs] at this
    simp [imageL] at this
    omega
  | succ n ih =>
    intro i hn hi f last hl hf
    have hlt : i < D.length := by omega
    obtain ⟨hw, hc⟩ := hD D[i] (List.getElem_mem hlt)
    obtain ⟨R, hR⟩ := encTo_prefix D (i + 1) D.length hlt
    have hg : D.getD i (ByteArray.empty, 0) = D[i] := by rw [List.getD_eq_getElem?_getD, List.getElem?_eq_getElem hlt, Option.getD_some]
    have hen : encTo D (i + 1) = encTo D i ++ encE (prevW D i) D[i].1.toList D[i].2 := by simp only [encTo]; rw [hg]
    obtain ⟨k, hk⟩ : ∃ k, k = lcpL (prevW D i) D[i].1.toList := ⟨_, rfl⟩
    obtain ⟨hk1, hk2⟩ := lcpL_le (prevW D i) D[i].1.toList
    have htk := lcp_take (prevW D i) D[i].1.toList
    rw [← hk] at hk1 hk2 htk
    have hwl : D[i].1.toList.length = D[i].1.size := toList_length _
    have hee : encE (prevW D i) D[i].1.toList D[i].2 = UInt8.ofNat k :: UInt8.ofNat (D[i].1.size - k) :: (D[i].1.toList.drop k ++ twoL D[i].2) := by simp [encE, ← hk, hwl]
    obtain ⟨E, hE⟩ : ∃ E, E = encE (prevW D i) D[i].1.toList D[i].2 := ⟨_, rfl⟩
    rw [← hE] at hen hee
    have hEl : E.length = 4 + (D[i].1.size - k) := by rw [hee]; simp [twoL]; omega
    have hsl : s.toList = encTo D i ++ (E ++ (R ++ [sumL (encTo D D.length)])) := by rw [hs, imageL, hR, hen]; simp
    have hsz : s.size = (encTo D i).length + E.length + R.length + 1 := by rw [← toList_length, hsl]; simp; omega
    have e0 : bt s (encTo D i).length = k := by
      have := bt_mid hsl 0 (by omega)
      rw [Nat.add_zero] at this
      rw [this, hee]
      exact u8_of (by omega)
    have e1 : bt s ((encTo D i).length + 1) = D[i].1.size - k := by
      rw [bt_mid hsl 1 (by omega), hee]
      exact u8_of (by omega)
    have hdl : (D[i].1.toList.drop k).length = D[i].1.size - k := by rw [List.length_drop, hwl]
    have ex : (s.extract ((encTo D i).length + 2) ((encTo D i).length + 2 + (D[i].1.size - k))).toList = D[i].1.toList.drop k := by
      rw [toList_extract, hsl, List.drop_append, List.drop_of_length_le (by omega), hee]
      rw [show (encTo D i).length + 2 - (encTo D i).length = 2 by omega, show (encTo D i).length + 2 + (D[i].1.size - k) - ((encTo D i).length + 2) = (D[i].1.toList.drop k).length by omega]
      simp
    have e2 : bt s ((encTo D i).length + 2 + (D[i].1.size - k)) = D[i].2 % 256 := by
      rw [show (encTo D i).length + 2 + (D[i].1.size - k) = (encTo D i).length + (2 + (D[i].1.size - k)) by omega, bt_mid hsl _ (by omega), hee, List.getD_eq_getElem?_getD, show 2 + (D[i].1.size - k) = (D[i].1.size - k) + 1 + 1 by omega, List.getElem?_cons_succ, List.getElem?_cons_succ, List.getElem?_append_right (by omega), hdl]
      simp [twoL]
    have e3 : bt s ((encTo D i).length + 2 + (D[i].1.size - k) + 1) = D[i].2 / 256 := by
      rw [show (encTo D i).length + 2 + (D[i].1.size - k) + 1 = (encTo D i).length + (2 + (D[i].1.size - k) + 1) by omega, bt_mid hsl _ (by omega), hee, List.getD_eq_getElem?_getD, show 2 + (D[i].1.size - k) + 1 = (D[i].1.size - k + 1) + 1 + 1 by omega, List.getElem?_cons_succ, List.getElem?_cons_succ, List.getElem?_append_right (by omega), hdl]
      rw [show D[i].1.size - k + 1 - (D[i].1.size - k) = 1 by omega]
      simp [twoL]
      omega
    have hls : last.size = (prevW D i).length := by rw [← toList_length, hl]
    obtain ⟨f', hf', hst⟩ := guessG_step (s := s) (f := f) (k := (encTo D i).length) (last := last) hf (by omega) (by omega) (by omega)
    have hnx : last.extract 0 k ++ s.extract ((encTo D i).length + 2) ((encTo D i).length + 2 + (D[i].1.size - k)) = D[i].1 := by
      apply ba_ext
      rw [toList_append, ex, toList_extract, hl]
      simp only [List.drop_zero, Nat.sub_zero]
      rw [htk, List.take_append_drop]
    rw [hst, e0, e1, e2, e3, hnx]
    rw [e1] at hf'
    have hat : (encTo D i).length + 2 + (D[i].1.size - k) + 2 = (encTo D (i + 1)).length := by rw [hen, List.length_append]; omega
    rw [hat] at hf' ⊢
    rw [ih (i + 1) (by omega) hlt f' D[i].1 (by simp only [prevW]; rw [hg]) hf']
    rw [List.drop_eq_getElem_cons hlt]
    congr 1
    exact Prod.ext rfl (by simp only; omega)

theorem guess_image {s : ByteArray} {D : Dic} (hD : Fits D) (hs : s.toList = imageL D) : guessD s = D := by
  have := guessG_image hD hs D.length 0 (by omega) (by omega) s.size ByteArray.empty (by simp [prevW, ByteArray.toList_eq]) (by omega)
  have h4 : (encTo D 0).length = 4 := by simp [encTo, twoL]
  rw [h4] at this
  exact this

/-! words -/
/-- the first n bytes are those of a word, as far as they go. -/
def WordPre (x : ByteArray) (n : Nat) : Prop := 1 ≤ n ∧ n ≤ 12 ∧ n ≤ x.size ∧ (srt (bt x 0) = 1 ∨ srt (bt x 0) = 2) ∧ ∀ j, 0 < j → j < n → srt (bt x j) = srt (bt x 0) ∨ srt (bt x j) = 4

def IsWord (x : ByteArray) : Prop := WordPre x x.size

theorem isWord_at {x : ByteArray} : IsWord x ↔ 1 ≤ x.size ∧ WordAt x 0 x.size := by
  constructor
  · rintro ⟨h1, h2, h3, h4, h5⟩
    exact ⟨h1, .inr ⟨h1, h2, by omega, h4, (fun j a b => h5 j a (by omega)), .inl (by omega)⟩⟩
  · rintro ⟨h1, h⟩
    rcases h with ⟨h, _⟩ | ⟨a, b, c, d, e, _⟩
    · omega
    · exact ⟨a, b, by omega, d, fun j u v => e j u (by omega)⟩

/-- the state of the reference behind the first n bytes of a word. -/
def wordSt (x : ByteArray) (n : Nat) : St := if n = 0 then ⟨0, 0, false, 0⟩ else ⟨2, n, smB (bt x 0), 0⟩

theorem wordSt_step {x : ByteArray} {n : Nat} (hn : n < x.size) (h : n = 0 ∨ WordPre x n) :
    ((nxt (wordSt x n) (bt x n)).2 = true ∧ (nxt (wordSt x n) (bt x n)).1.st = 2 ↔ WordPre x (n + 1)) ∧ (WordPre x (n + 1) → (nxt (wordSt x n) (bt x n)).1 = wordSt x (n + 1)) := by
  rcases h with rfl | h
  · simp only [wordSt, if_true, nxt]
    have e : WordPre x (0 + 1) ↔ (smB (bt x 0) || cpB (bt x 0)) = true := by
      rw [Bool.or_eq_true, smB_iff, cpB_iff, ← srt_1, ← srt_2]
      constructor
      · rintro ⟨_, _, _, h, _⟩; exact h
      · intro h; exact ⟨by omega, by omega, by omega, h, fun j a b => by omega⟩
    rw [e]
    simp
  · have hn0 : n ≠ 0 := by have := h.1; omega
    simp only [wordSt, hn0, if_false]
    obtain ⟨h1, h2, h3, h4, h5⟩ := h
    have e : WordPre x (n + 1) ↔ n < 12 ∧ (srt (bt x n) = srt (bt x 0) ∨ srt (bt x n) = 4) := by
      constructor
      · rintro ⟨_, a, _, _, b⟩
        exact ⟨by omega, b n (by omega) (by omega)⟩
      · rintro ⟨a, b⟩
        refine ⟨by omega, by omega, by omega, h4, fun j u v => ?_⟩
        by_cases ej : j = n
        · subst ej; exact b
        · exact h5 j u (by omega)
    rw [e]
    have e2 : ((((bt x n : Nat) : Int) == 126 || (smB (bt x 0) && smB (bt x n))) || (!smB (bt x 0) && cpB (bt x n))) = true ↔ srt (bt x n) = srt (bt x 0) ∨ srt (bt x n) = 4 := by
      simp only [Bool.or_eq_true, Bool.and_eq_true, beq_iff_eq, Bool.not_eq_true', smB_iff, cpB_iff, srt_4]
      rw [show (smB (bt x 0) = false) ↔ ¬ (97 ≤ bt x 0 ∧ bt x 0 ≤ 122) from by rw [← smB_iff]; simp]
      rcases h4 with h4 | h4
      · rw [h4, srt_1]
        rw [srt_1] at h4
        omega
      · rw [h4, srt_2]
        rw [srt_2] at h4
        omega
    have hnx : nxt ⟨2, n, smB (bt x 0), 0⟩ (bt x n) = lts ⟨2, n, smB (bt x 0), 0⟩ (bt x n) := by simp [nxt]
    rw [hnx]
    unfold lts
    simp only
    have h2n : n + 1 ≠ 0 := by omega
    by_cases hc : ((((bt x n : Nat) : Int) == 126 || (smB (bt x 0) && smB (bt x n))) || (!smB (bt x 0) && cpB (bt x n))) = true
    · by_cases h12 : n < 12
      · simp [hc, h12, ← e2, h2n]
      · simp only [h12, decide_false, Bool.and_false, Bool.false_eq_true, if_false, false_and, iff_false, false_implies, and_true]
        split
        · simp
        · split
          · simp
          · simp
    · simp only [← e2, hc, and_false, iff_false, false_implies, and_true]
      rw [Bool.not_eq_true] at hc
      simp only [hc, Bool.false_and, Bool.false_eq_true, if_false]
      split
      · simp
      · split
        · simp
        · simp

/-! dictionaries that may be -/
def GoodDic (D : Dic) : Prop := D.length ≤ 150 ∧ Srt D ∧ ∀ p ∈ D, IsWord p.1 ∧ p.2 ≤ 1000

theorem GoodDic.fits {D : Dic} (h : GoodDic D) : Fits D := fun p hp => by
  obtain ⟨h1, h2⟩ := h.2.2 p hp
  have := h1.2.1
  omega

/-- what both sides' Load must answer. -/
def LoadYes (s : ByteArray) (D : Dic) : Prop := GoodDic D ∧ imageL D = s.toList
def LoadNo (s : ByteArray) : Prop := ∀ D, GoodDic D → imageL D ≠ s.toList

theorem LoadYes.guess {s : ByteArray} {D : Dic} (h : LoadYes s D) : D = guessD s := (guess_image h.1.fits h.2.symm).symm
theorem LoadYes.unique {s : ByteArray} {D D' : Dic} (h : LoadYes s D) (h' : LoadYes s D') : D = D' := h.guess.trans h'.guess.symm

theorem srt_of_rises {D : Dic} (h : ∀ i (h : i + 1 < D.length), wl D[i].1 D[i + 1].1 = true) : Srt D := by
  induction D with
  | nil => exact List.Pairwise.nil
  | cons p D ih =>
    have hD : Srt D := ih fun i hi => by have := h (i + 1) (by simpa using hi); simpa using this
    refine List.pairwise_cons.2 ⟨fun q hq => ?_, hD⟩
    cases D with
    | nil => cases hq
    | cons r D =>
      have h0 : wl p.1 r.1 = true := by have := h 0 (by simp); simpa using this
      rcases List.mem_cons.1 hq with rfl | hq
      · exact h0
      · exact wl_trans h0 ((List.pairwise_cons.1 hD).1 q hq)

theorem rises_of_srt {D : Dic} (h : Srt D) (i : Nat) (hi : i + 1 < D.length) : wl D[i].1 D[i + 1].1 = true := List.pairwise_iff_getElem.1 h i (i + 1) (by omega) hi (by omega)

end Go.Proofs.YtdofjmfbkpdppaaDoor
/-
  Plain mathematics: words out of raw numbers.
-/
namespace Go.Proofs.YtdofjmfbkpdppaaDoor
set_option linter.unusedSimpArgs false
set_option linter.unusedVariables false

/-- which of n things the raw number c speaks of. -/
def pk (c : Int) (n : Nat) : Nat := ((if c < 0 then -(c + 1) else c) % (n : Int)).toNat

theorem pk_lt (c : Int) {n : Nat} (h : 0 < n) : pk c n < n := by
  unfold pk
  have h1 := Int.emod_nonneg (if c < 0 then -(c + 1) else c) (show (n : Int) ≠ 0 by omega)
  have h2 := Int.emod_lt_of_pos (if c < 0 then -(c + 1) else c) (show 0 < (n : Int) by omega)
  omega

theorem pk_cast (c : Int) {n : Nat} (h : 0 < n) : ((pk c n : Nat) : Int) = (if c < 0 then -(c + 1) else c) % (n : Int) := by
  unfold pk
  have h1 := Int.emod_nonneg (if c < 0 then -(c + 1) else c) (show (n : Int) ≠ 0 by omega)
  omega

/-- a letter of a raw number, or a mark. -/
def ltr (v base : Nat) (first : Bool) : Nat := if v % 7 = 6 ∧ first = false then 126 else base + v % 7 % 3

def wbase (v : Nat) : Nat := if v % 2 = 1 then 65 else 97
def wlen (v : Nat) : Nat := 1 + v / 2 % 4
def wlet (v i : Nat) : Nat := ltr (v / 8 / 7 ^ i) (wbase v) (decide (i = 0))
def wbytes (v : Nat) : Nat → List UInt8
  | 0 => []
  | i + 1 => wbytes v i ++ [UInt8.ofNat (wlet v i)]
def wordV (v : Nat) : ByteArray := ⟨(wbytes v (wlen v)).toArray⟩
def wordOf (c : Int) : ByteArray := wordV (pk c 1099511627776)

theorem wbytes_length (v : Nat) : ∀ i, (wbytes v i).length = i
  | 0 => rfl
  | i + 1 => by simp [wbytes, wbytes_length v i]

theorem ltr_lt (v base : Nat) (first : Bool) (h : base ≤ 200) : ltr v base first < 256 := by unfold ltr; split <;> omega

theorem wbase_le (v : Nat) : wbase v ≤ 200 := by unfold wbase; split <;> omega

theorem wlet_lt (v i : Nat) : wlet v i < 256 := ltr_lt _ _ _ (wbase_le v)

theorem wbytes_get (v : Nat) : ∀ (n i : Nat), i < n → (wbytes v n)[i]? = some (UInt8.ofNat (wlet v i))
  | 0, i, h => by omega
  | n + 1, i, h => by
    simp only [wbytes]
    by_cases e : i = n
    · subst e
      rw [List.getElem?_append_right (by rw [wbytes_length]; omega), wbytes_length]
      simp
    · rw [List.getElem?_append_left (by rw [wbytes_length]; omega), wbytes_get v n i (by omega)]

theorem wordV_size (v : Nat) : (wordV v).size = wlen v := by
  have := wbytes_length v (wlen v)
  simp only [wordV, ByteArray.size, List.size_toArray]
  exact this

theorem wordV_bt (v i : Nat) (h : i < wlen v) : bt (wordV v) i = wlet v i := by
  unfold bt wordV
  rw [List.getD_eq_getElem?_getD]
  show ((wbytes v (wlen v))[i]?.getD 0).toNat = _
  rw [wbytes_get v _ i h]
  exact u8_of (wlet_lt v i)

theorem wlen_le (v : Nat) : 1 ≤ wlen v ∧ wlen v ≤ 4 := by unfold wlen; omega

theorem wordV_is (v : Nat) : IsWord (wordV v) := by
  have hl := wlen_le v
  have hs := wordV_size v
  have h0 : wlet v 0 = wbase v + v / 8 % 7 % 3 := by simp [wlet, ltr]
  have hk : ∀ j, j < wlen v → srt (bt (wordV v) j) = srt (bt (wordV v) 0) ∨ srt (bt (wordV v) j) = 4 := fun j hj => by
    rw [wordV_bt v j hj, wordV_bt v 0 (by omega), h0]
    unfold wlet ltr
    split
    · exact .inr (srt_4.2 rfl)
    · left
      unfold wbase
      split
      · rw [srt_2.2 (by omega), srt_2.2 (by omega)]
      · rw [srt_1.2 (by omega), srt_1.2 (by omega)]
  refine ⟨by omega, by omega, Nat.le_refl _, ?_, fun j _ h => hk j (by omega)⟩
  rw [wordV_bt v 0 (by omega), h0]
  unfold wbase
  split
  · exact .inr (srt_2.2 (by omega))
  · exact .inl (srt_1.2 (by omega))

end Go.Proofs.YtdofjmfbkpdppaaDoor
/-
  Plain mathematics: the keep statements' table.
-/
namespace Go.Proofs.YtdofjmfbkpdppaaDoor
set_option linter.unusedSimpArgs false
set_option linter.unusedVariables false

/-- words and their costs; -1: it is out. -/
abbrev Tab := List (ByteArray × Int)

def tput : Tab → ByteArray → Int → Tab
  | [], x, c => [(x, c)]
  | p :: T, x, c => if p.1 = x then (p.1, c) :: T else p :: tput T x c

def tcost : Tab → ByteArray → Int
  | [], _ => -1
  | p :: T, x => if p.1 = x then p.2 else tcost T x

theorem tput_found : ∀ {T : Tab} {x : ByteArray} {c : Int} {i : Nat} (hi : i < T.length), T[i].1 = x → (∀ j (h : j < T.length), j < i → T[j].1 ≠ x) → tput T x c = T.set i (T[i].1, c)
  | [], _, _, i, hi, _, _ => by simp at hi
  | p :: T, x, c, 0, _, h1, _ => by
    have h1 : p.1 = x := h1
    simp [tput, h1]
  | p :: T, x, c, i + 1, hi, h1, h2 => by
    have h0 : p.1 ≠ x := h2 0 (by simp) (by omega)
    simp only [tput, if_neg h0, List.set_cons_succ, List.getElem_cons_succ]
    rw [tput_found (i := i) (by simpa using hi) (by simpa using h1) (fun j hj hji => by have := h2 (j + 1) (by simpa using hj) (by omega); simpa using this)]

theorem tput_none : ∀ {T : Tab} {x : ByteArray} {c : Int}, (∀ j (h : j < T.length), T[j].1 ≠ x) → tput T x c = T ++ [(x, c)]
  | [], _, _, _ => rfl
  | p :: T, x, c, h => by
    have h0 : p.1 ≠ x := h 0 (by simp)
    simp only [tput, if_neg h0, List.cons_append]
    rw [tput_none fun j hj => by have := h (j + 1) (by simpa using hj); simpa using this]

theorem tcost_found : ∀ {T : Tab} {x : ByteArray} {i : Nat} (hi : i < T.length), T[i].1 = x → (∀ j (h : j < T.length), j < i → T[j].1 ≠ x) → tcost T x = T[i].2
  | [], _, i, hi, _, _ => by simp at hi
  | p :: T, x, 0, _, h1, _ => by
    have h1 : p.1 = x := h1
    simp [tcost, h1]
  | p :: T, x, i + 1, hi, h1, h2 => by
    have h0 : p.1 ≠ x := h2 0 (by simp) (by omega)
    simp only [tcost, if_neg h0, List.getElem_cons_succ]
    rw [tcost_found (i := i) (by simpa using hi) (by simpa using h1) (fun j hj hji => by have := h2 (j + 1) (by simpa using hj) (by omega); simpa using this)]

theorem tcost_none : ∀ {T : Tab} {x : ByteArray}, (∀ j (h : j < T.length), T[j].1 ≠ x) → tcost T x = -1
  | [], _, _ => rfl
  | p :: T, x, h => by
    have h0 : p.1 ≠ x := h 0 (by simp)
    simp only [tcost, if_neg h0]
    exact tcost_none fun j hj => by have := h (j + 1) (by simpa using hj); simpa using this

theorem tcost_put (T : Tab) (x y : ByteArray) (c : Int) : tcost (tput T x c) y = if y = x then c else tcost T y := by
  induction T with
  | nil =>
    simp only [tput, tcost]
    by_cases e : x = y
    · subst e; simp
    · rw [if_neg e, if_neg (fun h => e h.symm)]
  | cons p T ih =>
    simp only [tput]
    by_cases hp : p.1 = x
    · rw [if_pos hp]
      simp only [tcost]
      by_cases e : p.1 = y
      · rw [if_pos e, if_pos (by rw [← e]; exact hp)]
      · rw [if_neg e, if_neg (fun h => e (by rw [h]; exact hp)), if_neg e]
    · rw [if_neg hp]
      simp only [tcost]
      by_cases e : p.1 = y
      · rw [if_pos e, if_neg (fun h => hp (by rw [e]; exact h)), if_pos e]
      · rw [if_neg e, ih, if_neg e]

theorem tput_length (T : Tab) (x : ByteArray) (c : Int) : (tput T x c).length ≤ T.length + 1 := by
  induction T with
  | nil => simp [tput]
  | cons p T ih =>
    simp only [tput]
    split
    · simp
    · simp; omega

theorem tput_mem {T : Tab} {x : ByteArray} {c : Int} {p : ByteArray × Int} (h : p ∈ tput T x c) : p ∈ T ∨ p = (x, c) := by
  induction T with
  | nil => simp [tput] at h; exact .inr h
  | cons q T ih =>
    simp only [tput] at h
    split at h
    · rename_i e
      rcases List.mem_cons.1 h with rfl | h
      · exact .inr (by rw [e])
      · exact .inl (List.mem_cons_of_mem _ h)
    · rcases List.mem_cons.1 h with rfl | h
      · exact .inl List.mem_cons_self
      · rcases ih h with h | h
        · exact .inl (List.mem_cons_of_mem _ h)
        · exact .inr h

/-- no word stands twice in a table. -/
def TabOk (T : Tab) : Prop := (T.map (·.1)).Nodup

theorem tput_ok {T : Tab} {x : ByteArray} {c : Int} (h : TabOk T) : TabOk (tput T x c) := by
  induction T with
  | nil => simp [TabOk, tput]
  | cons p T ih =>
    have hT : TabOk T := (List.nodup_cons.1 h).2
    have hn : p.1 ∉ T.map (·.1) := (List.nodup_cons.1 h).1
    simp only [tput]
    split
    · exact List.nodup_cons.2 ⟨hn, hT⟩
    · rename_i hp
      refine List.nodup_cons.2 ⟨fun hm => ?_, ih hT⟩
      obtain ⟨q, hq, e⟩ := List.mem_map.1 hm
      rcases tput_mem hq with h | h
      · exact hn (List.mem_map.2 ⟨q, h, e⟩)
      · rw [h] at e; exact hp e.symm

/-- the table holds what the entries say. -/
def TabRep (T : Tab) (E : List Ent) : Prop := TabOk T ∧ ∀ w, tcost T w = match eff E w with | some c => (c : Int) | none => -1

theorem TabRep.nil : TabRep [] [] := ⟨by simp [TabOk], fun w => by simp [tcost, eff]⟩

theorem TabRep.put {T : Tab} {E : List Ent} {x : Ent} (h : TabRep T E) : TabRep (tput T x.word (if x.inn = true then (x.cost : Int) else -1)) (E ++ [x]) := by
  refine ⟨tput_ok h.1, fun w => ?_⟩
  rw [tcost_put, eff_snoc]
  unfold stepE
  by_cases e : x.word = w
  · rw [if_pos e, if_pos e.symm]
    by_cases hi : x.inn = true
    · rw [if_pos hi, if_pos hi]
    · rw [if_neg hi, if_neg hi]
  · rw [if_neg e, if_neg (fun h => e h.symm)]
    exact h.2 w

end Go.Proofs.YtdofjmfbkpdppaaDoor
/-
  Plain mathematics: the automaton runs over entries; what the program answers is what the reference answers.
-/
namespace Go.Proofs.YtdofjmfbkpdppaaDoor
set_option linter.unusedSimpArgs false
set_option linter.unusedVariables false

def Start (f : St) : Prop := f.n = 0 ∧ f.sm = false ∧ f.cost = 0 ∧ (f.st = 0 ∨ f.st = 1)

theorem stp_ok {s : ByteArray} {i : Nat} {f g : St} (h : stp s i = some f) (hn : nxt f (bt s i) = (g, true)) : stp s (i + 1) = some g := by
  rw [stp_succ h, hn]; simp
theorem stp_no {s : ByteArray} {i : Nat} {f : St} (h : stp s i = some f) (hn : (nxt f (bt s i)).2 = false) : stp s (i + 1) = none := by
  rw [stp_succ h, hn]; simp

theorem nxt_start {f : St} {c : Nat} (h : Start f) : nxt f c = (⟨2, 1, smB c, 0⟩, smB c || cpB c) := by
  obtain ⟨_, _, _, h⟩ := h
  unfold nxt
  rw [if_pos h]

theorem sm_of {c : Nat} (h : srt c = 1 ∨ srt c = 2) : (smB c || cpB c) = true := by
  rcases h with h | h
  · rw [srt_1] at h; simp [smB, h]
  · rw [srt_2] at h; simp [cpB, h]

theorem sm_no {c : Nat} (h : srt c ≠ 1 ∧ srt c ≠ 2) : (smB c || cpB c) = false := by
  have h1 : ¬ (97 ≤ c ∧ c ≤ 122) := fun e => h.1 (srt_1.2 e)
  have h2 : ¬ (65 ≤ c ∧ c ≤ 90) := fun e => h.2 (srt_2.2 e)
  simp [smB, cpB]
  omega

/-- does c go on with a word that began with b? -/
theorem fits_iff {b c : Nat} (hb : srt b = 1 ∨ srt b = 2) : ((((c : Int) == 126 || (smB b && smB c)) || (!(smB b) && cpB c)) = true) ↔ (srt c = srt b ∨ srt c = 4) := by
  rcases hb with hb | hb
  · have h1 := srt_1.1 hb
    have h2 : smB b = true := smB_iff.2 h1
    rw [hb, h2]
    simp [srt_1, srt_4, smB_iff]
    omega
  · have h1 := srt_2.1 hb
    have h2 : smB b = false := by simp [smB]; omega
    rw [hb, h2]
    simp [srt_2, srt_4, cpB_iff]
    omega

theorem nxt_word {n b c : Nat} : nxt ⟨2, n, smB b, 0⟩ c = lts ⟨2, n, smB b, 0⟩ c := by simp [nxt]

theorem lts_fit {n b c : Nat} (hb : srt b = 1 ∨ srt b = 2) (hc : srt c = srt b ∨ srt c = 4) (hn : n < 12) : lts ⟨2, n, smB b, 0⟩ c = (⟨2, n + 1, smB b, 0⟩, true) := by
  have := (fits_iff (b := b) (c := c) hb).2 hc
  unfold lts
  rw [if_pos (by simp only [Bool.and_eq_true, decide_eq_true_eq]; exact ⟨this, hn⟩)]

theorem lts_unfit {n b c : Nat} (hb : srt b = 1 ∨ srt b = 2) (h : n = 12 ∨ ¬ (srt c = srt b ∨ srt c = 4)) :
    lts ⟨2, n, smB b, 0⟩ c = if (c : Int) == 61 then (⟨3, 0, false, 0⟩, true) else if (c : Int) == 33 then (⟨5, 0, false, 0⟩, true) else (⟨2, n, smB b, 0⟩, false) := by
  unfold lts
  rw [if_neg]
  simp only [Bool.and_eq_true, decide_eq_true_eq]
  rintro ⟨h1, h2⟩
  rcases h with h | h
  · omega
  · exact h ((fits_iff (b := b) (c := c) hb).1 h1)

theorem word_run {s : ByteArray} {k n : Nat} {f : St} (h : stp s k = some f) (hf : Start f) (hw : WordAt s k n) : ∀ j, 1 ≤ j → j ≤ n → stp s (k + j) = some ⟨2, j, smB (bt s k), 0⟩ ∧ hgh s (k + j) = hgh s k := by
  intro j h1 hj
  rcases hw with ⟨rfl, _⟩ | ⟨_, h12, hs, hl, hall, _⟩
  · omega
  · induction j with
    | zero => omega
    | succ j ih =>
      by_cases hj0 : j = 0
      · subst hj0
        have e : nxt f (bt s k) = (⟨2, 1, smB (bt s k), 0⟩, true) := by rw [nxt_start hf, sm_of hl]
        have hs1 := stp_ok h e
        refine ⟨hs1, ?_⟩
        show hgh s (k + 1) = _
        rw [hgh_succ hs1]
        simp
      · obtain ⟨i1, i2⟩ := ih (by omega) (by omega)
        have e : nxt ⟨2, j, smB (bt s k), 0⟩ (bt s (k + j)) = (⟨2, j + 1, smB (bt s k), 0⟩, true) := by
          rw [nxt_word, lts_fit hl (hall (k + j) (by omega) (by omega)) (by omega)]
        have hs1 := stp_ok i1 e
        refine ⟨hs1, ?_⟩
        show hgh s (k + j + 1) = _
        rw [hgh_succ hs1]
        simp [i2]

theorem digits_run {s : ByteArray} {k m : Nat} (h : stp s k = some ⟨3, 0, false, 0⟩) (hd : DigitsAt s k m) : ∀ j, j ≤ m → stp s (k + j) = some ⟨if j = 0 then 3 else 4, j, false, num s k j⟩ ∧ hgh s (k + j) = if hgh s k < 0 ∧ 1000 < num s k j then (k : Int) else hgh s k := by
  obtain ⟨h4, hs, hall, _⟩ := hd
  intro j hj
  induction j with
  | zero => simp [h, num]
  | succ j ih =>
    obtain ⟨i1, i2⟩ := ih (by omega)
    have hdg := srt_3.1 (hall (k + j) (by omega) (by omega))
    have hd2 : dgB (bt s (k + j)) = true := dgB_iff.2 hdg
    have e : nxt ⟨if j = 0 then 3 else 4, j, false, num s k j⟩ (bt s (k + j)) = (⟨4, j + 1, false, num s k (j + 1)⟩, true) := by
      unfold nxt
      have hst : (if j = 0 then 3 else 4) = 3 ∨ (if j = 0 then 3 else 4) = 4 := by split <;> simp
      rw [if_neg (by simp only; omega), if_neg (by simp only; omega), if_neg (by simp only; omega), if_pos (by simp only [hd2, Bool.true_and, decide_eq_true_eq]; omega)]
      simp [num]
    have hs1 := stp_ok i1 e
    refine ⟨by rw [if_neg (by omega)]; exact hs1, ?_⟩
    show hgh s (k + j + 1) = _
    rw [hgh_succ hs1, i2]
    have hmono : num s k j ≤ num s k (j + 1) := by simp only [num]; omega
    simp only
    by_cases a : hgh s k < 0
    · by_cases b : 1000 < num s k j
      · have c : 1000 < num s k (j + 1) := by omega
        simp only [a, b, c, and_self, if_true]
        rw [if_neg (by omega)]
      · simp only [a, b, and_false, if_false, true_and, and_true]
        split <;> omega
    · simp [a]

theorem nxt_out {c : Nat} : nxt ⟨5, 0, false, 0⟩ c = (⟨1, 0, false, 0⟩, (c : Int) == 44) := by simp [nxt]
theorem nxt_digits {m v c : Nat} (h : m = 4 ∨ srt c ≠ 3) : nxt ⟨4, m, false, v⟩ c = (⟨1, 0, false, 0⟩, (c : Int) == 44) := by
  unfold nxt
  rw [if_neg (by simp), if_neg (by simp), if_neg (by simp), if_neg]
  · simp
  · simp only [Bool.and_eq_true, decide_eq_true_eq]
    rintro ⟨h1, h2⟩
    rw [dgB_iff] at h1
    rcases h with h | h
    · omega
    · exact h (srt_3.2 h1)

theorem srt33 : srt 33 = 0 := rfl
theorem srt61 : srt 61 = 0 := rfl

/-- behind a word. -/
theorem behind_word {s : ByteArray} {k n : Nat} {f : St} (h : stp s k = some f) (hf : Start f) (hw : WordAt s k n) (hn : 1 ≤ n) (hlt : k + n < s.size) :
    nxt ⟨2, n, smB (bt s k), 0⟩ (bt s (k + n)) = if (bt s (k + n) : Int) == 61 then (⟨3, 0, false, 0⟩, true) else if (bt s (k + n) : Int) == 33 then (⟨5, 0, false, 0⟩, true) else (⟨2, n, smB (bt s k), 0⟩, false) := by
  rcases hw with ⟨rfl, _⟩ | ⟨_, h12, hs, hl, hall, hmax⟩
  · omega
  · rw [nxt_word, lts_unfit hl]
    rcases hmax with a | a | a
    · omega
    · exact .inl a
    · exact .inr (fun e => by rcases e with e | e; exact a.1 e; exact a.2 e)

theorem good_run {s : ByteArray} {k p : Nat} {x : Ent} {f : St} (h : stp s k = some f) (hf : Start f) (hg : GoodEntry s k x p) :
    ∃ g, stp s p = some g ∧ acc g ∧ (p < s.size → nxt g (bt s p) = (⟨1, 0, false, 0⟩, (bt s p : Int) == 44)) ∧ hgh s p = if hgh s k < 0 ∧ 1000 < x.cost then (x.dig : Int) else hgh s k := by
  obtain ⟨n, hw, h1, hlt, _, hx⟩ := hg
  have hb := behind_word h hf hw h1 hlt
  obtain ⟨r1, r2⟩ := word_run h hf hw n h1 (Nat.le_refl _)
  rcases hx with ⟨h33, _, hc, hd, rfl⟩ | ⟨h61, m, hm, hdg, _, hc, hd, rfl⟩
  · have e : nxt ⟨2, n, smB (bt s k), 0⟩ (bt s (k + n)) = (⟨5, 0, false, 0⟩, true) := by rw [hb, h33]; simp
    have hs1 := stp_ok r1 e
    refine ⟨_, hs1, .inr (.inr rfl), fun _ => nxt_out, ?_⟩
    rw [hgh_succ hs1, hc, r2]
    simp
  · have e : nxt ⟨2, n, smB (bt s k), 0⟩ (bt s (k + n)) = (⟨3, 0, false, 0⟩, true) := by rw [hb, h61]; simp
    have hs1 := stp_ok r1 e
    have hh : hgh s (k + n + 1) = hgh s k := by rw [hgh_succ hs1, r2]; simp
    obtain ⟨d1, d2⟩ := digits_run hs1 hdg m (Nat.le_refl _)
    rw [if_neg (by omega)] at d1
    refine ⟨_, d1, .inr (.inl rfl), fun hp => ?_, ?_⟩
    · apply nxt_digits
      obtain ⟨_, _, _, hmax⟩ := hdg
      rcases hmax with a | a | a
      · omega
      · exact .inl a
      · exact .inr a
    · rw [d2, hh, hc, hd]

def Stuck (s : ByteArray) (p : Nat) : Prop := (p < s.size ∧ ∃ f, stp s p = some f ∧ stp s (p + 1) = none) ∨ (p = s.size ∧ ∃ f, stp s s.size = some f ∧ ¬ acc f)

theorem bad_run {s : ByteArray} {k p : Nat} {f : St} (h : stp s k = some f) (hf : Start f) (hk : k < s.size) (hg : BadEntry s k p) : Stuck s p := by
  obtain ⟨n, hw, hx⟩ := hg
  by_cases hn : n = 0
  · subst hn
    rcases hx with ⟨_, rfl⟩ | ⟨a, _⟩ | ⟨a, _⟩
    · rcases hw with ⟨_, hw⟩ | ⟨a, _⟩
      · rcases hw with a | a
        · omega
        · exact .inl ⟨hk, f, h, stp_no h (by rw [nxt_start hf]; exact sm_no a)⟩
      · omega
    · omega
    · omega
  · obtain ⟨r1, r2⟩ := word_run h hf hw n (by omega) (Nat.le_refl _)
    rcases hx with ⟨a, rfl⟩ | ⟨_, hlt, h33, h61, rfl⟩ | ⟨_, hlt, h61, hdg, rfl⟩
    · rcases a with a | a
      · omega
      · rw [a] at r1
        exact .inr ⟨a, _, r1, fun e => by rcases e with e | e | e <;> simp at e⟩
    · have hb := behind_word h hf hw (by omega) hlt
      have t61 : ((bt s (k + n) : Int) == 61) = false := beq_eq_false_iff_ne.2 (by omega)
      have t33 : ((bt s (k + n) : Int) == 33) = false := beq_eq_false_iff_ne.2 (by omega)
      exact .inl ⟨hlt, _, r1, stp_no r1 (by rw [hb, t61, t33]; rfl)⟩
    · have hb := behind_word h hf hw (by omega) hlt
      have e : nxt ⟨2, n, smB (bt s k), 0⟩ (bt s (k + n)) = (⟨3, 0, false, 0⟩, true) := by rw [hb, h61]; simp
      have hs1 := stp_ok r1 e
      by_cases hl : k + n + 1 < s.size
      · refine .inl ⟨hl, _, hs1, stp_no hs1 ?_⟩
        obtain ⟨_, _, _, hmax⟩ := hdg
        have hnd : dgB (bt s (k + n + 1)) = false := by
          rcases hmax with a | a | a
          · omega
          · omega
          · cases e : dgB (bt s (k + n + 1)) with
            | false => rfl
            | true => exact absurd (srt_3.2 (dgB_iff.1 e)) a
        simp [nxt, hnd]
      · have hl' : k + n + 1 = s.size := by omega
        rw [hl'] at hs1
        exact .inr ⟨hl', _, hs1, fun e => by rcases e with e | e | e <;> simp at e⟩

/-- the first cost above its bound among entries. -/
def hghE : Int → List Ent → Int
  | h, [] => h
  | h, x :: E => hghE (if h < 0 ∧ 1000 < x.cost then (x.dig : Int) else h) E

theorem chain_run {s : ByteArray} {q : Nat} : ∀ {E : List Ent} {k : Nat} {f : St}, stp s k = some f → Start f → Chain s k E q → ∃ g, stp s q = some g ∧ Start g ∧ hgh s q = hghE (hgh s k) E ∧ (E = [] → g = f) ∧ (E ≠ [] → g.st = 1)
  | [], k, f, h, hf, hc => by cases hc; exact ⟨f, h, hf, rfl, fun _ => rfl, fun a => absurd rfl a⟩
  | x :: E, k, f, h, hf, hc => by
    obtain ⟨p, hg, hp, h44, hc⟩ := hc
    obtain ⟨g, h1, h2, h3, h4⟩ := good_run h hf hg
    have e : nxt g (bt s p) = (⟨1, 0, false, 0⟩, true) := by rw [h3 hp, h44]; rfl
    have hs1 := stp_ok h1 e
    obtain ⟨g', i1, i2, i3, i4, i5⟩ := chain_run hs1 ⟨rfl, rfl, rfl, .inr rfl⟩ hc
    refine ⟨g', i1, i2, ?_, (fun a => by cases a), fun _ => ?_⟩
    · rw [i3, hgh_succ hs1, h4]
      simp [hghE]
    · by_cases hE : E = []
      · rw [i4 hE]
      · exact i5 hE

theorem hghE_append (h : Int) (E : List Ent) (x : Ent) : hghE h (E ++ [x]) = if hghE h E < 0 ∧ 1000 < x.cost then (x.dig : Int) else hghE h E := by
  induction E generalizing h with
  | nil => rfl
  | cons y E ih => exact ih _

theorem hghE_pos (h : Int) (hh : 0 ≤ h) (E : List Ent) : hghE h E = h := by
  induction E with
  | nil => rfl
  | cons x E ih => simp only [hghE]; rw [if_neg (by omega), ih]

theorem hghE_none (E : List Ent) (h : ∀ j (hj : j < E.length), E[j].cost ≤ 1000) : hghE (-1) E = -1 := by
  induction E with
  | nil => rfl
  | cons x E ih =>
    simp only [hghE]
    have h0 := h 0 (by simp)
    simp at h0
    rw [if_neg (by omega)]
    exact ih fun j hj => by have := h (j + 1) (by simp; omega); simpa using this

theorem hghE_first (E : List Ent) (k : Nat) (hk : k < E.length) (hc : 1000 < E[k].cost) (h : ∀ j (hj : j < k), E[j].cost ≤ 1000) : hghE (-1) E = E[k].dig := by
  induction E generalizing k with
  | nil => simp at hk
  | cons x E ih =>
    simp only [hghE]
    cases k with
    | zero => simp at hc ⊢; rw [if_pos hc, hghE_pos _ (by omega)]
    | succ k =>
      have h0 := h 0 (by omega)
      simp at h0
      rw [if_neg (by omega)]
      have := ih k (by simpa using hk) (by simpa using hc) (fun j hj => by have := h (j + 1) (by omega); simpa using this)
      simpa using this

theorem start0 : Start ⟨0, 0, false, 0⟩ := ⟨rfl, rfl, rfl, .inl rfl⟩

theorem stuck_res {s : ByteArray} {p : Nat} (hs : s.size ≤ 2000) (h : Stuck s p) : RefRes s 2 p := by
  rcases h with ⟨a, f, h1, h2⟩ | ⟨rfl, f, h1, h2⟩
  · exact .inr (.inl ⟨hs, p, f, a, h1, h2, rfl, rfl⟩)
  · exact .inr (.inr (.inl ⟨hs, f, h1, h2, rfl, rfl⟩))

theorem badList_res {s : ByteArray} {p : Nat} (hs : s.size ≤ 2000) (h : BadList s p) : RefRes s 2 p := by
  obtain ⟨E, q, hc, hx⟩ := h
  obtain ⟨g, h1, h2, _, _, h5⟩ := chain_run (f := ⟨0, 0, false, 0⟩) rfl start0 hc
  apply stuck_res hs
  rcases hx with ⟨hq, hb⟩ | ⟨x, hg, hp, h44⟩ | ⟨hq, hq0, rfl⟩
  · exact bad_run h1 h2 hq hb
  · obtain ⟨g', i1, _, i3, _⟩ := good_run h1 h2 hg
    exact .inl ⟨hp, g', i1, stp_no i1 (by rw [i3 hp]; exact beq_eq_false_iff_ne.2 (by omega))⟩
  · have hE : E ≠ [] := fun e => by rw [e] at hc; exact hq0 hc
    have h1' : stp s s.size = some g := by rw [← hq]; exact h1
    refine .inr ⟨hq, g, h1', fun ha => ?_⟩
    have := h5 hE
    rcases ha with a | a | a <;> omega

theorem goodList_run {s : ByteArray} {E : List Ent} (h : GoodList s E) : ∃ f, stp s s.size = some f ∧ acc f ∧ hgh s s.size = hghE (-1) E := by
  rcases h with ⟨rfl, h0⟩ | ⟨E', x, q, rfl, hc, hg⟩
  · rw [h0]; exact ⟨⟨0, 0, false, 0⟩, rfl, .inl rfl, rfl⟩
  · obtain ⟨g, h1, h2, h3, _, _⟩ := chain_run (f := ⟨0, 0, false, 0⟩) rfl start0 hc
    obtain ⟨g', i1, i2, _, i4⟩ := good_run h1 h2 hg
    refine ⟨g', i1, i2, ?_⟩
    rw [i4, h3, hghE_append]
    rfl

theorem goodList_ok {s : ByteArray} {E : List Ent} (hs : s.size ≤ 2000) (h : GoodList s E) (hc : ∀ j (hj : j < E.length), E[j].cost ≤ 1000) : RefRes s 0 0 := by
  obtain ⟨f, h1, h2, h3⟩ := goodList_run h
  rw [hghE_none E hc] at h3
  exact .inr (.inr (.inr (.inr ⟨hs, f, h1, h2, by omega, rfl, rfl⟩)))

theorem goodList_cost {s : ByteArray} {E : List Ent} (hs : s.size ≤ 2000) (h : GoodList s E) (k : Nat) (hk : k < E.length) (hx : 1000 < E[k].cost) (hc : ∀ j (hj : j < k), E[j].cost ≤ 1000) : RefRes s 3 E[k].dig := by
  obtain ⟨f, h1, h2, h3⟩ := goodList_run h
  rw [hghE_first E k hk hx hc] at h3
  exact .inr (.inr (.inr (.inl ⟨hs, f, h1, h2, by omega, rfl, h3.symm⟩)))

end Go.Proofs.YtdofjmfbkpdppaaDoor
/-
  Plain mathematics: a dictionary, a word more, a word less, by place.
-/
namespace Go.Proofs.YtdofjmfbkpdppaaDoor
set_option linter.unusedSimpArgs false
set_option linter.unusedVariables false

theorem dic_at {D : Dic} {k : Nat} (h : k < D.length) : D = D.take k ++ D[k] :: D.drop (k + 1) := by
  rw [← List.drop_eq_getElem_cons h, List.take_append_drop]

theorem dic_set {D : Dic} {k : Nat} (h : k < D.length) (p : ByteArray × Nat) : D.set k p = D.take k ++ p :: D.drop (k + 1) := by
  rw [List.set_eq_take_append_cons_drop, if_pos h]

theorem rep_set {D : Dic} {E : List Ent} {x : Ent} {k : Nat} (h : Rep D E) (hx : x.inn = true) (hk : k < D.length) (hw : D[k].1 = x.word) : Rep (D.set k (x.word, x.cost)) (E ++ [x]) := by
  rw [dic_set hk]
  have e := dic_at hk
  have e2 : D[k] = (x.word, D[k].2) := by rw [← hw]
  rw [e2] at e
  exact Rep.put_old (c0 := D[k].2) (by rw [← e]; exact h) hx

theorem split_right {D : Dic} {x : ByteArray} {k : Nat} (hs : Srt D) (h : SplitAt D x k) (hn : ∀ (h : k < D.length), D[k].1 ≠ x) : (∀ p ∈ D.take k, wl p.1 x = true) ∧ ∀ p ∈ D.drop k, wl x p.1 = true := by
  obtain ⟨h0, h1, h2⟩ := h
  have gt : ∀ j (hj : j < D.length), k ≤ j → wl x D[j].1 = true := by
    intro j hj hkj
    have hk : k < D.length := by omega
    have a : wl x D[k].1 = true := by
      cases e : wl x D[k].1 with
      | true => rfl
      | false => exact absurd (wl_tri (h2 k hk (Nat.le_refl _)) e) (hn hk)
    by_cases e : j = k
    · subst e; exact a
    · exact wl_trans a (List.pairwise_iff_getElem.1 hs k j hk hj (by omega))
  constructor
  · intro p hp
    obtain ⟨j, hj, rfl⟩ := List.mem_iff_getElem.1 hp
    simp at hj
    rw [List.getElem_take]
    exact h1 j (by omega) (by omega)
  · intro p hp
    obtain ⟨j, hj, rfl⟩ := List.mem_iff_getElem.1 hp
    simp at hj
    rw [List.getElem_drop]
    exact gt (k + j) (by omega) (by omega)

theorem rep_ins {D : Dic} {E : List Ent} {x : Ent} {k : Nat} (h : Rep D E) (hx : x.inn = true) (hs : SplitAt D x.word k) (hn : ∀ (h : k < D.length), D[k].1 ≠ x.word) : Rep (D.take k ++ (x.word, x.cost) :: D.drop k) (E ++ [x]) := by
  obtain ⟨a, b⟩ := split_right h.1 hs hn
  exact Rep.put_new (by rw [List.take_append_drop]; exact h) hx a b

theorem rep_del {D : Dic} {E : List Ent} {x : Ent} {k : Nat} (h : Rep D E) (hx : x.inn = false) (hk : k < D.length) (hw : D[k].1 = x.word) : Rep (D.take k ++ D.drop (k + 1)) (E ++ [x]) := by
  have e := dic_at hk
  have e2 : D[k] = (x.word, D[k].2) := by rw [← hw]
  rw [e2] at e
  exact Rep.drop_old (c0 := D[k].2) (by rw [← e]; exact h) hx

theorem rep_del_none {D : Dic} {E : List Ent} {x : Ent} {k : Nat} (h : Rep D E) (hx : x.inn = false) (hs : SplitAt D x.word k) (hn : ∀ (h : k < D.length), D[k].1 ≠ x.word) : Rep D (E ++ [x]) := by
  obtain ⟨a, b⟩ := split_right h.1 hs hn
  refine Rep.drop_none h hx fun c hc => ?_
  rw [← List.take_append_drop k D, List.mem_append] at hc
  rcases hc with hc | hc
  · exact absurd rfl (wl_ne (a _ hc))
  · exact absurd rfl (wl_ne (b _ hc)).symm

/-- a row in which the place i is being freed: what stands behind i has moved by one. -/
def hole (D : Dic) (i : Nat) (p : ByteArray × Nat) : Dic := D.take i ++ p :: D.drop i

theorem hole_length {D : Dic} {i : Nat} {p : ByteArray × Nat} (h : i ≤ D.length) : (hole D i p).length = D.length + 1 := by simp [hole]; omega
theorem hole_end (D : Dic) (p : ByteArray × Nat) : hole D D.length p = D ++ [p] := by simp [hole]
theorem hole_before {D : Dic} {i j : Nat} {p : ByteArray × Nat} (h : i ≤ D.length) (hj : j < i) : (hole D i p)[j]'(by rw [hole_length h]; omega) = D[j] := by
  unfold hole
  rw [List.getElem_append_left (by simp; omega), List.getElem_take]
theorem hole_step {D : Dic} {i : Nat} {p : ByteArray × Nat} (h : i < D.length) : (hole D (i + 1) p).set (i + 1) D[i] = hole D i D[i] := by
  unfold hole
  rw [List.set_append_right _ _ (by simp; omega)]
  have e : i + 1 - (D.take (i + 1)).length = 0 := by simp; omega
  rw [e, List.set_cons_zero, List.take_succ_eq_append_getElem h, List.drop_eq_getElem_cons h]
  simp only [List.append_assoc, List.singleton_append]
theorem hole_fill {D : Dic} {i : Nat} {p q : ByteArray × Nat} (h : i ≤ D.length) : (hole D i p).set i q = hole D i q := by
  unfold hole
  rw [List.set_append_right _ _ (by simp; omega)]
  have e : i - (D.take i).length = 0 := by simp; omega
  rw [e, List.set_cons_zero]

/-- a dictionary without the word at k. -/
def del (D : Dic) (k : Nat) : Dic := D.take k ++ D.drop (k + 1)
/-- the same on the way: up to i the words have moved. -/
def shl (D : Dic) (k i : Nat) : Dic := (del D k).take i ++ D.drop i

theorem del_length {D : Dic} {k : Nat} (h : k < D.length) : (del D k).length = D.length - 1 := by simp [del]; omega
theorem shl_length {D : Dic} {k i : Nat} (h : k < D.length) (hi : i < D.length) : (shl D k i).length = D.length := by
  have := del_length h
  simp [shl]; omega
theorem shl_start {D : Dic} {k : Nat} (h : k < D.length) : shl D k k = D := by
  unfold shl del
  rw [List.take_append_of_le_length (by simp; omega), List.take_take, Nat.min_self, List.take_append_drop]
theorem shl_next {D : Dic} {k i : Nat} (h : k < D.length) (hi : i + 1 < D.length) : (shl D k i)[i + 1]'(by rw [shl_length h (by omega)]; omega) = D[i + 1] := by
  have := del_length h
  unfold shl
  rw [List.getElem_append_right (by simp; omega), List.getElem_drop]
  congr 1
  simp
  omega
theorem shl_step {D : Dic} {k i : Nat} (h : k < D.length) (hk : k ≤ i) (hi : i + 1 < D.length) : (shl D k i).set i D[i + 1] = shl D k (i + 1) := by
  have hd := del_length h
  have he : (del D k)[i]'(by omega) = D[i + 1] := by
    unfold del
    rw [List.getElem_append_right (by simp; omega), List.getElem_drop]
    congr 1
    simp
    omega
  unfold shl
  rw [List.set_append_right _ _ (by simp; omega)]
  have e : i - ((del D k).take i).length = 0 := by simp; omega
  rw [e, List.drop_eq_getElem_cons (by omega), List.set_cons_zero, List.take_succ_eq_append_getElem (by omega), he]
  simp only [List.append_assoc, List.singleton_append]
theorem shl_end {D : Dic} {k m : Nat} (h : k < D.length) (hm : D.length = m + 1) (p : ByteArray × Nat) : (shl D k m).set m p = del D k ++ [p] := by
  have hd := del_length h
  unfold shl
  rw [List.set_append_right _ _ (by simp; omega)]
  have e : m - ((del D k).take m).length = 0 := by simp; omega
  rw [e, List.drop_eq_getElem_cons (by omega), List.set_cons_zero, List.drop_of_length_le (by omega), List.take_of_length_le (by omega)]

theorem srt_before {D : Dic} (hs : Srt D) {i j : Nat} (hj : j < D.length) (hij : i < j) : wl D[i].1 D[j].1 = true := List.pairwise_iff_getElem.1 hs i j (by omega) hj hij

theorem find_up {D : Dic} (hs : Srt D) {m : Nat} {x : ByteArray} (hm : m < D.length) (h : wl D[m].1 x = true) : ∀ j (hj : j < D.length), j < m + 1 → wl D[j].1 x = true := by
  intro j hj hjm
  by_cases e : j = m
  · subst e; exact h
  · exact wl_trans (srt_before hs hm (by omega)) h

theorem find_down {D : Dic} (hs : Srt D) {m : Nat} {x : ByteArray} (hm : m < D.length) (h : wl D[m].1 x = false) : ∀ j (hj : j < D.length), m ≤ j → wl D[j].1 x = false := by
  intro j hj hjm
  by_cases e : j = m
  · subst e; exact h
  · cases e' : wl D[j].1 x with
    | false => rfl
    | true => have := wl_trans (srt_before hs (i := m) hj (by omega)) e'; rw [h] at this; cases this

end Go.Proofs.YtdofjmfbkpdppaaDoor
/-
  Plain mathematics: lists of lists; what Build answers.
-/
namespace Go.Proofs.YtdofjmfbkpdppaaDoor
set_option linter.unusedSimpArgs false
set_option linter.unusedVariables false

def OkList (s : ByteArray) (E : List Ent) : Prop := s.size ≤ 2000 ∧ GoodList s E ∧ (∀ j (hj : j < E.length), E[j].cost ≤ 1000) ∧ E.length ≤ s.size

/-- the entries of the first i lists, all of which are such. -/
def OkUpTo (ss : List ByteArray) : Nat → List Ent → Prop
  | 0, E => E = []
  | i + 1, E => ∃ E1 E2, OkUpTo ss i E1 ∧ (∃ h : i < ss.length, OkList ss[i] E2) ∧ E = E1 ++ E2

theorem OkList.res {s : ByteArray} {E : List Ent} (h : OkList s E) : RefRes s 0 0 := goodList_ok h.1 h.2.1 h.2.2.1

def WordOk (x : Ent) : Prop := 1 ≤ x.word.size ∧ x.word.size ≤ 12 ∧ x.cost ≤ 9999

theorem GoodEntry.ok {s : ByteArray} {k p : Nat} {x : Ent} (h : GoodEntry s k x p) : WordOk x := by
  have hc := h.le.2.2.1
  obtain ⟨n, hw, h1, h2, h3, _⟩ := h
  have := hw.le
  refine ⟨?_, ?_, hc⟩ <;> rw [h3] <;> simp <;> omega

theorem chain_ok {s : ByteArray} {q : Nat} : ∀ {E : List Ent} {k : Nat}, Chain s k E q → ∀ x ∈ E, WordOk x
  | [], _, _, x, hx => by cases hx
  | y :: E, k, h, x, hx => by
    obtain ⟨p, hg, _, _, hc⟩ := h
    rcases List.mem_cons.1 hx with rfl | hx
    · exact hg.ok
    · exact chain_ok hc x hx

theorem goodList_ok' {s : ByteArray} {E : List Ent} (h : GoodList s E) : ∀ x ∈ E, WordOk x := by
  rcases h with ⟨rfl, _⟩ | ⟨E', y, q, rfl, hc, hg⟩
  · intro x hx; cases hx
  · intro x hx
    rcases List.mem_append.1 hx with hx | hx
    · exact chain_ok hc x hx
    · rcases List.mem_cons.1 hx with rfl | hx
      · exact hg.ok
      · cases hx

theorem OkUpTo.ok {ss : List ByteArray} : ∀ {i : Nat} {E : List Ent}, OkUpTo ss i E → ∀ x ∈ E, WordOk x
  | 0, E, h, x, hx => by cases h; cases hx
  | i + 1, E, h, x, hx => by
    obtain ⟨E1, E2, h1, ⟨_, h2⟩, rfl⟩ := h
    rcases List.mem_append.1 hx with hx | hx
    · exact h1.ok x hx
    · exact goodList_ok' h2.2.1 x hx

theorem OkUpTo.length {ss : List ByteArray} : ∀ {i : Nat} {E : List Ent}, OkUpTo ss i E → E.length ≤ i * 2000
  | 0, E, h => by cases h; simp
  | i + 1, E, h => by
    obtain ⟨E1, E2, h1, ⟨_, h2⟩, rfl⟩ := h
    have := h1.length
    have := h2.2.2.2
    have := h2.1
    simp; omega

/-- every word of a dictionary of entries is one of theirs. -/
theorem eff_mem {E : List Ent} {w : ByteArray} {c : Nat} (h : eff E w = some c) : ∃ x ∈ E, x.word = w ∧ x.inn = true ∧ x.cost = c := by
  suffices ∀ (S : List Ent) (o : Option Nat), S.foldl (fun o x => stepE x w o) o = some c → o = some c ∨ ∃ x ∈ S, x.word = w ∧ x.inn = true ∧ x.cost = c by
    rcases this E none h with e | e
    · cases e
    · exact e
  intro S
  induction S with
  | nil => intro o h; exact .inl h
  | cons y S ih =>
    intro o h
    rcases ih _ h with e | ⟨x, hx, e⟩
    · have e : stepE y w o = some c := e
      unfold stepE at e
      split at e
      · rename_i hw
        split at e
        · rename_i hi
          cases e
          exact .inr ⟨y, List.mem_cons_self, hw, hi, rfl⟩
        · cases e
      · exact .inl e
    · exact .inr ⟨x, List.mem_cons_of_mem _ hx, e⟩

theorem Rep.words {D : Dic} {E : List Ent} (h : Rep D E) (hE : ∀ x ∈ E, WordOk x) : ∀ p ∈ D, 1 ≤ p.1.size ∧ p.1.size ≤ 12 := by
  intro p hp
  obtain ⟨x, hx, e, _, _⟩ := eff_mem ((h.2 p.1 p.2).1 hp)
  have := hE x hx
  rw [← e]
  exact ⟨this.1, this.2.1⟩

/-- what both sides' Build must answer. -/
def BuildNo (ss : List ByteArray) (err : Int) : Prop :=
  (8 < ss.length ∧ err = 4) ∨
  (ss.length ≤ 8 ∧ ∃ (i : Nat) (E : List Ent) (p : Int), OkUpTo ss i E ∧ (∃ h : i < ss.length, RefRes ss[i] err p) ∧ err ≠ 0) ∨
  (ss.length ≤ 8 ∧ ∃ (E : List Ent) (D : Dic), OkUpTo ss ss.length E ∧ Rep D E ∧ 150 < D.length ∧ err = 4)

def BuildYes (ss : List ByteArray) (D : Dic) : Prop := ss.length ≤ 8 ∧ ∃ E, OkUpTo ss ss.length E ∧ Rep D E ∧ D.length ≤ 150

end Go.Proofs.YtdofjmfbkpdppaaDoor
/-
  Plain mathematics: the reference takes a list apart.
-/
namespace Go.Proofs.YtdofjmfbkpdppaaDoor
set_option linter.unusedSimpArgs false
set_option linter.unusedVariables false

/-- the entries from q on, up to the end. -/
def Rest (s : ByteArray) : Nat → List Ent → Prop
  | _, [] => False
  | q, x :: E => ∃ p, GoodEntry s q x p ∧ ((E = [] ∧ p = s.size) ∨ (E ≠ [] ∧ p < s.size ∧ bt s p = 44 ∧ Rest s (p + 1) E))

theorem rest_of_chain {s : ByteArray} {x : Ent} {q : Nat} (hg : GoodEntry s q x s.size) : ∀ {E : List Ent} {k : Nat}, Chain s k E q → Rest s k (E ++ [x])
  | [], k, h => by cases h; exact ⟨s.size, hg, .inl ⟨rfl, rfl⟩⟩
  | y :: E, k, h => by
    obtain ⟨p, h1, h2, h3, h4⟩ := h
    exact ⟨p, h1, .inr ⟨by simp, h2, h3, rest_of_chain hg h4⟩⟩

theorem rest_of_good {s : ByteArray} {E : List Ent} (h : GoodList s E) : (E = [] ∧ s.size = 0) ∨ Rest s 0 E := by
  rcases h with h | ⟨E', x, q, rfl, hc, hg⟩
  · exact .inl h
  · exact .inr (rest_of_chain hg hc)

theorem word_byte {s : ByteArray} {k n j : Nat} (h : WordAt s k n) (h1 : k ≤ j) (h2 : j < k + n) : srt (bt s j) = 1 ∨ srt (bt s j) = 2 ∨ srt (bt s j) = 4 := by
  rcases h with ⟨rfl, _⟩ | ⟨_, _, _, hl, hall, _⟩
  · omega
  · by_cases e : j = k
    · subst e; rcases hl with a | a
      · exact .inl a
      · exact .inr (.inl a)
    · rcases hall j (by omega) h2 with a | a
      · rw [a]; rcases hl with a | a
        · exact .inl a
        · exact .inr (.inl a)
      · exact .inr (.inr a)

theorem word_plain {s : ByteArray} {k n j : Nat} (h : WordAt s k n) (h1 : k ≤ j) (h2 : j < k + n) : bt s j ≠ 44 ∧ bt s j ≠ 61 ∧ bt s j ≠ 33 := by
  have := word_byte h h1 h2
  simp only [srt_1, srt_2, srt_4] at this
  omega

theorem good_nocomma {s : ByteArray} {q p i : Nat} {x : Ent} (h : GoodEntry s q x p) (h1 : q ≤ i) (h2 : i < p) : bt s i ≠ 44 := by
  obtain ⟨n, hw, hn, hlt, _, hx⟩ := h
  by_cases hi : i < q + n
  · exact (word_plain hw h1 hi).1
  · rcases hx with ⟨h33, _, _, _, rfl⟩ | ⟨h61, m, _, hd, _, _, _, rfl⟩
    · have : i = q + n := by omega
      rw [this]; omega
    · by_cases e : i = q + n
      · rw [e]; omega
      · have := hd.2.2.1 i (by omega) (by omega)
        rw [srt_3] at this
        omega

/-- an entry's cost, as the reference keeps it. -/
def refC (x : Ent) : Int := if x.inn = true then (x.cost : Int) else -1

end Go.Proofs.YtdofjmfbkpdppaaDoor
/-
  Plain mathematics: a list has one row of entries alone.
-/
namespace Go.Proofs.YtdofjmfbkpdppaaDoor
set_option linter.unusedSimpArgs false
set_option linter.unusedVariables false

theorem WordAt.one {s : ByteArray} {k n m : Nat} (h : WordAt s k n) (h' : WordAt s k m) : n = m := by
  rcases h with ⟨e, a⟩ | ⟨a1, a2, a3, a4, a5, a6⟩
  · rcases h' with ⟨e', _⟩ | ⟨b1, _, b3, b4, _⟩
    · omega
    · rcases a with a | a
      · omega
      · omega
  · rcases h' with ⟨e', b⟩ | ⟨b1, b2, b3, b4, b5, b6⟩
    · rcases b with b | b
      · omega
      · omega
    · by_cases h1 : n < m
      · have := b5 (k + n) (by omega) (by omega)
        rcases a6 with a6 | a6 | a6 <;> omega
      · by_cases h2 : m < n
        · have := a5 (k + m) (by omega) (by omega)
          rcases b6 with b6 | b6 | b6 <;> omega
        · omega

theorem DigitsAt.one {s : ByteArray} {k n m : Nat} (h : DigitsAt s k n) (h' : DigitsAt s k m) : n = m := by
  obtain ⟨a1, a2, a3, a4⟩ := h
  obtain ⟨b1, b2, b3, b4⟩ := h'
  by_cases h1 : n < m
  · have := b3 (k + n) (by omega) (by omega)
    rcases a4 with a4 | a4 | a4 <;> omega
  · by_cases h2 : m < n
    · have := a3 (k + m) (by omega) (by omega)
      rcases b4 with b4 | b4 | b4 <;> omega
    · omega

theorem GoodEntry.one {s : ByteArray} {k p q : Nat} {x y : Ent} (h : GoodEntry s k x p) (h' : GoodEntry s k y q) : x = y ∧ p = q := by
  obtain ⟨n, a1, a2, a3, a4, a5⟩ := h
  obtain ⟨m, b1, b2, b3, b4, b5⟩ := h'
  obtain rfl := a1.one b1
  obtain ⟨xw, xi, xc, xd⟩ := x
  obtain ⟨yw, yi, yc, yd⟩ := y
  simp only at a4 b4 a5 b5
  subst a4 b4
  rcases a5 with ⟨_, rfl, rfl, rfl, rfl⟩ | ⟨a6, m1, _, a7, rfl, rfl, rfl, rfl⟩
  · rcases b5 with ⟨_, rfl, rfl, rfl, rfl⟩ | ⟨b6, _⟩
    · exact ⟨rfl, rfl⟩
    · omega
  · rcases b5 with ⟨b6, _⟩ | ⟨_, m2, _, b7, rfl, rfl, rfl, rfl⟩
    · omega
    · obtain rfl := a7.one b7
      exact ⟨rfl, rfl⟩

theorem Rest.one {s : ByteArray} : ∀ {E F : List Ent} {q : Nat}, Rest s q E → Rest s q F → E = F
  | [], _, _, h, _ => h.elim
  | _ :: _, [], _, _, h => h.elim
  | x :: E, y :: F, q, h, h' => by
    obtain ⟨p, hg, hr⟩ := h
    obtain ⟨p', hg', hr'⟩ := h'
    obtain ⟨rfl, rfl⟩ := hg.one hg'
    rcases hr with ⟨rfl, e⟩ | ⟨_, a, _, hr⟩
    · rcases hr' with ⟨rfl, _⟩ | ⟨_, b, _⟩
      · rfl
      · omega
    · rcases hr' with ⟨_, e⟩ | ⟨_, _, _, hr'⟩
      · omega
      · rw [Rest.one hr hr']

theorem GoodList.one {s : ByteArray} {E F : List Ent} (h : GoodList s E) (h' : GoodList s F) : E = F := by
  rcases rest_of_good h with ⟨rfl, e⟩ | hr
  · rcases rest_of_good h' with ⟨rfl, _⟩ | hr'
    · rfl
    · cases F with
      | nil => rfl
      | cons y F =>
        obtain ⟨p, hg, _⟩ := hr'
        have := hg.le
        omega
  · rcases rest_of_good h' with ⟨rfl, e⟩ | hr'
    · cases E with
      | nil => rfl
      | cons y F =>
        obtain ⟨p, hg, _⟩ := hr
        have := hg.le
        omega
    · exact hr.one hr'

theorem OkUpTo.one {ss : List ByteArray} : ∀ {i : Nat} {E F : List Ent}, OkUpTo ss i E → OkUpTo ss i F → E = F
  | 0, E, F, h, h' => by cases h; cases h'; rfl
  | i + 1, E, F, h, h' => by
    obtain ⟨E1, E2, h1, ⟨_, h2⟩, rfl⟩ := h
    obtain ⟨F1, F2, k1, ⟨_, k2⟩, rfl⟩ := h'
    rw [h1.one k1, h2.2.1.one k2.2.1]

/-- Build cannot refuse lists that are such and hold few words. -/
theorem build_ok {ss : List ByteArray} {E : List Ent} (h8 : ss.length ≤ 8) (h : OkUpTo ss ss.length E) (hl : ∀ D, Rep D E → D.length ≤ 150) (err : Int) : ¬ BuildNo ss err := by
  have hall : ∀ (n : Nat) (E : List Ent), OkUpTo ss n E → ∀ i (hi : i < ss.length), i < n → RefRes ss[i] 0 0 := by
    intro n
    induction n with
    | zero => intro E _ i _ h; omega
    | succ n ih =>
      intro E hE i hi hlt
      obtain ⟨E1, E2, h1, ⟨hn, h2⟩, _⟩ := hE
      by_cases e : i = n
      · subst e; exact h2.res
      · exact ih E1 h1 i hi (by omega)
  rintro (⟨a, _⟩ | ⟨_, i, F, p, hF, ⟨hi, hr⟩, hne⟩ | ⟨_, F, D, hF, hR, h150, _⟩)
  · omega
  · exact hne ((hall _ E h i hi hi).unique hr).1.symm
  · obtain rfl := h.one hF
    have := hl D hR
    omega

end Go.Proofs.YtdofjmfbkpdppaaDoor
/-
  Plain mathematics: what Build makes is a dictionary.
-/
namespace Go.Proofs.YtdofjmfbkpdppaaDoor
set_option linter.unusedSimpArgs false
set_option linter.unusedVariables false

theorem GoodEntry.word {s : ByteArray} {k p : Nat} {x : Ent} (h : GoodEntry s k x p) : IsWord x.word := by
  obtain ⟨n, hw, h1, h2, h3, _⟩ := h
  rcases hw with ⟨h, _⟩ | ⟨_, a2, a3, a4, a5, _⟩
  · omega
  · have hz : (s.extract k (k + n)).size = n := by simp; omega
    have hb : ∀ j, j < n → bt (s.extract k (k + n)) j = bt s (k + j) := fun j hj => bt_extract s k (k + n) j (by omega) (by omega)
    rw [h3]
    refine ⟨by omega, by omega, Nat.le_refl _, ?_, fun j b c => ?_⟩
    · rw [hb 0 (by omega)]; exact a4
    · rw [hz] at c
      rw [hb 0 (by omega), hb j c]
      exact a5 (k + j) (by omega) (by omega)

theorem chain_word {s : ByteArray} {q : Nat} : ∀ {E : List Ent} {k : Nat}, Chain s k E q → ∀ x ∈ E, IsWord x.word
  | [], _, _, x, hx => by cases hx
  | y :: E, k, h, x, hx => by
    obtain ⟨p, hg, _, _, hc⟩ := h
    rcases List.mem_cons.1 hx with rfl | hx
    · exact hg.word
    · exact chain_word hc x hx

theorem OkList.words {s : ByteArray} {E : List Ent} (h : OkList s E) : ∀ x ∈ E, IsWord x.word ∧ x.cost ≤ 1000 := by
  obtain ⟨_, hg, hc, _⟩ := h
  intro x hx
  refine ⟨?_, ?_⟩
  · rcases hg with ⟨rfl, _⟩ | ⟨E', y, q, rfl, hch, hgy⟩
    · cases hx
    · rcases List.mem_append.1 hx with hx | hx
      · exact chain_word hch x hx
      · rcases List.mem_cons.1 hx with rfl | hx
        · exact hgy.word
        · cases hx
  · obtain ⟨j, hj, rfl⟩ := List.mem_iff_getElem.1 hx
    exact hc j hj

theorem OkUpTo.words {ss : List ByteArray} : ∀ {i : Nat} {E : List Ent}, OkUpTo ss i E → ∀ x ∈ E, IsWord x.word ∧ x.cost ≤ 1000
  | 0, E, h, x, hx => by cases h; cases hx
  | i + 1, E, h, x, hx => by
    obtain ⟨E1, E2, h1, ⟨_, h2⟩, rfl⟩ := h
    rcases List.mem_append.1 hx with hx | hx
    · exact h1.words x hx
    · exact h2.words x hx

theorem rep_good {D : Dic} {E : List Ent} {ss : List ByteArray} {n : Nat} (h : OkUpTo ss n E) (hr : Rep D E) (hl : D.length ≤ 150) : GoodDic D := by
  refine ⟨hl, hr.1, fun p hp => ?_⟩
  obtain ⟨x, hx, e1, _, e2⟩ := eff_mem ((hr.2 p.1 p.2).1 hp)
  have := h.words x hx
  rw [← e1, ← e2]
  exact this

theorem BuildYes.good {ss : List ByteArray} {D : Dic} (h : BuildYes ss D) : GoodDic D := by
  obtain ⟨_, E, h1, h2, h3⟩ := h
  exact rep_good h1 h2 h3

end Go.Proofs.YtdofjmfbkpdppaaDoor
/-
  Plain mathematics: the program's reading of an image.
-/
namespace Go.Proofs.YtdofjmfbkpdppaaDoor
set_option linter.unusedSimpArgs false
set_option linter.unusedVariables false

/-- what is read of an entry that lies at k. -/
theorem image_entry {s : ByteArray} {D : Dic} (hD : Fits D) (hs : s.toList = imageL D) {i : Nat} (hlt : i < D.length) {last : ByteArray} (hl : last.toList = prevW D i) {k : Nat} (hk : k = (encTo D i).length) :
    k + 2 + bt s (k + 1) + 3 ≤ s.size ∧ bt s k ≤ last.size ∧ last.extract 0 (bt s k) ++ s.extract (k + 2) (k + 2 + bt s (k + 1)) = D[i].1 ∧
      bt s (k + 2 + bt s (k + 1)) + 256 * bt s (k + 2 + bt s (k + 1) + 1) = D[i].2 ∧ k + 2 + bt s (k + 1) + 2 = (encTo D (i + 1)).length ∧ D[i].1.toList = prevW D (i + 1) := by
  obtain ⟨hw, hc⟩ := hD D[i] (List.getElem_mem hlt)
  obtain ⟨R, hR⟩ := encTo_prefix D (i + 1) D.length hlt
  have hg : D.getD i (ByteArray.empty, 0) = D[i] := by rw [List.getD_eq_getElem?_getD, List.getElem?_eq_getElem hlt, Option.getD_some]
  have hen : encTo D (i + 1) = encTo D i ++ encE (prevW D i) D[i].1.toList D[i].2 := by simp only [encTo]; rw [hg]
  obtain ⟨m, hm⟩ : ∃ m, m = lcpL (prevW D i) D[i].1.toList := ⟨_, rfl⟩
  obtain ⟨hm1, hm2⟩ := lcpL_le (prevW D i) D[i].1.toList
  have htk := lcp_take (prevW D i) D[i].1.toList
  rw [← hm] at hm1 hm2 htk
  have hwl : D[i].1.toList.length = D[i].1.size := toList_length _
  have hee : encE (prevW D i) D[i].1.toList D[i].2 = UInt8.ofNat m :: UInt8.ofNat (D[i].1.size - m) :: (D[i].1.toList.drop m ++ twoL D[i].2) := by simp [encE, ← hm, hwl]
  obtain ⟨E, hE⟩ : ∃ E, E = encE (prevW D i) D[i].1.toList D[i].2 := ⟨_, rfl⟩
  rw [← hE] at hen hee
  have hEl : E.length = 4 + (D[i].1.size - m) := by rw [hee]; simp [twoL]; omega
  have hsl : s.toList = encTo D i ++ (E ++ (R ++ [sumL (encTo D D.length)])) := by rw [hs, imageL, hR, hen]; simp
  have hsz : s.size = (encTo D i).length + E.length + R.length + 1 := by rw [← toList_length, hsl]; simp; omega
  subst hk
  have e0 : bt s (encTo D i).length = m := by
    have := bt_mid hsl 0 (by omega)
    rw [Nat.add_zero] at this
    rw [this, hee]
    exact u8_of (by omega)
  have e1 : bt s ((encTo D i).length + 1) = D[i].1.size - m := by
    rw [bt_mid hsl 1 (by omega), hee]
    exact u8_of (by omega)
  have hdl : (D[i].1.toList.drop m).length = D[i].1.size - m := by rw [List.length_drop, hwl]
  have ex : (s.extract ((encTo D i).length + 2) ((encTo D i).length + 2 + (D[i].1.size - m))).toList = D[i].1.toList.drop m := by
    rw [toList_extract, hsl, List.drop_append, List.drop_of_length_le (by omega), hee]
    rw [show (encTo D i).length + 2 - (encTo D i).length = 2 by omega, show (encTo D i).length + 2 + (D[i].1.size - m) - ((encTo D i).length + 2) = (D[i].1.toList.drop m).length by omega]
    simp
  have e2 : bt s ((encTo D i).length + 2 + (D[i].1.size - m)) = D[i].2 % 256 := by
    rw [show (encTo D i).length + 2 + (D[i].1.size - m) = (encTo D i).length + (2 + (D[i].1.size - m)) by omega, bt_mid hsl _ (by omega), hee, List.getD_eq_getElem?_getD, show 2 + (D[i].1.size - m) = (D[i].1.size - m) + 1 + 1 by omega, List.getElem?_cons_succ, List.getElem?_cons_succ, List.getElem?_append_right (by omega), hdl]
    simp [twoL]
  have e3 : bt s ((encTo D i).length + 2 + (D[i].1.size - m) + 1) = D[i].2 / 256 := by
    rw [show (encTo D i).length + 2 + (D[i].1.size - m) + 1 = (encTo D i).length + (2 + (D[i].1.size - m) + 1) by omega, bt_mid hsl _ (by omega), hee, List.getD_eq_getElem?_getD, show 2 + (D[i].1.size - m) + 1 = (D[i].1.size - m + 1) + 1 + 1 by omega, List.getElem?_cons_succ, List.getElem?_cons_succ, List.getElem?_append_right (by omega), hdl]
    rw [show D[i].1.size - m + 1 - (D[i].1.size - m) = 1 by omega]
    simp [twoL]
    omega
  have hls : last.size = (prevW D i).length := by rw [← toList_length, hl]
  rw [e0, e1, e2, e3]
  refine ⟨by omega, by omega, ?_, by omega, ?_, by simp only [prevW]; rw [hg]⟩
  · apply ba_ext
    rw [toList_append, ex, toList_extract, hl]
    simp only [List.drop_zero, Nat.sub_zero]
    rw [htk, List.take_append_drop]
  · rw [hen, List.length_append]; omega

theorem image_head {s : ByteArray} {D : Dic} (hD : GoodDic D) (hs : imageL D = s.toList) : 5 ≤ s.size ∧ bt s 2 + 256 * bt s 3 = D.length := by
  obtain ⟨R, hR⟩ := encTo_prefix D 0 D.length (by omega)
  have hl := hD.1
  have e0 : s.toList = [87, 67] ++ (twoL D.length ++ (R ++ [sumL (encTo D D.length)])) := by rw [← hs, imageL, hR]; simp [encTo]
  have h1 : s.size = 2 + (2 + (R.length + 1)) := by rw [← toList_length, e0]; simp [twoL]; omega
  have h2 := bt_mid e0 0 (by simp [twoL])
  have h3 := bt_mid e0 1 (by simp [twoL])
  refine ⟨by omega, ?_⟩
  have e2 : bt s 2 = D.length % 256 := by rw [show (2 : Nat) = ([87, 67] : List UInt8).length + 0 from rfl, h2]; simp [twoL]
  have e3 : bt s 3 = D.length / 256 := by rw [show (3 : Nat) = ([87, 67] : List UInt8).length + 1 from rfl, h3]; simp [twoL]; omega
  omega

/-- the entry that the program reads at k. -/
structure WordHere (s : ByteArray) (k : Nat) (ahead : ByteArray) (x : ByteArray) (c k' : Nat) : Prop where
  fit : k + 2 + bt s (k + 1) + 2 ≤ s.size
  com : bt s k ≤ ahead.size
  word : x = ahead.extract 0 (bt s k) ++ s.extract (k + 2) (k + 2 + bt s (k + 1))
  is : IsWord x
  cost : c = bt s (k + 2 + bt s (k + 1)) + 256 * bt s (k + 2 + bt s (k + 1) + 1)
  low : c ≤ 1000
  next : k' = k + 2 + bt s (k + 1) + 2

/-- what has been read of a text up to k, if it is an image. -/
def Reads (s : ByteArray) (i k : Nat) (ahead : ByteArray) (E : List Ent) : Prop := ∀ D, GoodDic D → imageL D = s.toList →
  i ≤ D.length ∧ k = (encTo D i).length ∧ ahead.toList = prevW D i ∧ Rep (D.take i) E

theorem reads_start (s : ByteArray) : Reads s 0 4 ByteArray.empty [] := fun D _ _ => ⟨by omega, by simp [encTo, twoL], by simp [prevW, ByteArray.toList_eq], by simpa using Rep.nil⟩

theorem reads_word {s : ByteArray} {i k : Nat} {ahead : ByteArray} {E : List Ent} (h : Reads s i k ahead E) (hn : ∀ D, GoodDic D → imageL D = s.toList → i < D.length) (hno : ∀ x c k', ¬ WordHere s k ahead x c k') : LoadNo s := by
  intro D hD hs
  obtain ⟨h1, h2, h3, h4⟩ := h D hD hs
  have hlt := hn D hD hs
  obtain ⟨a, b, c, d, _⟩ := image_entry hD.fits hs.symm hlt h3 h2
  obtain ⟨hw, hc⟩ := hD.2.2 D[i] (List.getElem_mem hlt)
  exact hno D[i].1 D[i].2 _ ⟨by omega, b, c.symm, hw, d.symm, hc, rfl⟩

theorem reads_step {s : ByteArray} {i k : Nat} {ahead x : ByteArray} {c k' : Nat} {E : List Ent} (h : Reads s i k ahead E) (hn : ∀ D, GoodDic D → imageL D = s.toList → i < D.length) (hw : WordHere s k ahead x c k') : Reads s (i + 1) k' x (E ++ [⟨x, true, c, 0⟩]) := by
  intro D hD hs
  obtain ⟨h1, h2, h3, h4⟩ := h D hD hs
  have hlt := hn D hD hs
  obtain ⟨a, b, d, e, f, g⟩ := image_entry hD.fits hs.symm hlt h3 h2
  have ex : x = D[i].1 := by rw [hw.word, d]
  have ec : c = D[i].2 := by rw [hw.cost, e]
  refine ⟨hlt, by rw [hw.next, f], by rw [ex, g], ?_⟩
  rw [List.take_succ_eq_append_getElem hlt]
  have := Rep.put_new (L := D.take i) (R := []) (E := E) (x := ⟨x, true, c, 0⟩) (by simpa using h4) rfl (fun p hp => by
    obtain ⟨j, hj, rfl⟩ := List.mem_iff_getElem.1 hp
    simp at hj
    rw [List.getElem_take, ex]
    exact List.pairwise_iff_getElem.1 hD.2.1 j i (by omega) hlt (by omega)) (fun p hp => by cases hp)
  simp only at this
  rw [ex, ec] at this
  rw [ex, ec]
  exact this

theorem reads_end {s : ByteArray} {i k : Nat} {ahead : ByteArray} {E : List Ent} {D : Dic} (h : Reads s i k ahead E) (hn : ∀ D, GoodDic D → imageL D = s.toList → i = D.length) (hR : Rep D E) (hne : imageL D ≠ s.toList) : LoadNo s := by
  intro D0 hD hs
  obtain ⟨h1, h2, h3, h4⟩ := h D0 hD hs
  have := hn D0 hD hs
  subst this
  rw [List.take_length] at h4
  obtain rfl := hR.unique h4
  exact hne hs

theorem rep_goodE {D : Dic} {E : List Ent} (hE : ∀ x ∈ E, IsWord x.word ∧ x.cost ≤ 1000) (hr : Rep D E) (hl : D.length ≤ 150) : GoodDic D := by
  refine ⟨hl, hr.1, fun p hp => ?_⟩
  obtain ⟨x, hx, e1, _, e2⟩ := eff_mem ((hr.2 p.1 p.2).1 hp)
  have := hE x hx
  rw [← e1, ← e2]
  exact this

theorem snoc_ents {E : List Ent} {x : Ent} {P : Ent → Prop} (h : ∀ y ∈ E, P y) (hx : P x) : ∀ y ∈ E ++ [x], P y := by
  intro y hy
  rcases List.mem_append.1 hy with hy | hy
  · exact h y hy
  · rcases List.mem_cons.1 hy with rfl | hy
    · exact hx
    · cases hy

end Go.Proofs.YtdofjmfbkpdppaaDoor
/-
  Plain mathematics: what the program's reader takes.
-/
namespace Go.Proofs.YtdofjmfbkpdppaaDoor
set_option linter.unusedSimpArgs false
set_option linter.unusedVariables false

/-- a byte is taken at k: f: was the text too short before? -/
def TB (s : ByteArray) (k : Nat) (f : Bool) (n k' : Nat) (f' : Bool) : Prop :=
  (k < s.size ∧ n = bt s k ∧ k' = k + 1 ∧ f' = f) ∨ (s.size ≤ k ∧ n = 0 ∧ k' = k ∧ f' = true)
def TN (s : ByteArray) (k : Nat) (f : Bool) (c k' : Nat) (f' : Bool) : Prop :=
  ∃ n1 k1 f1 n2, TB s k f n1 k1 f1 ∧ TB s k1 f1 n2 k' f' ∧ c = n1 + 256 * n2
def TX (s : ByteArray) (k : Nat) (f : Bool) (n : Nat) (x : ByteArray) (k' : Nat) (f' : Bool) : Prop :=
  (k + n ≤ s.size ∧ x = s.extract k (k + n) ∧ k' = k + n ∧ f' = f) ∨ (s.size < k + n ∧ x = ByteArray.empty ∧ k' = k ∧ f' = true)

theorem TB.le {s : ByteArray} {k n k' : Nat} {f f' : Bool} (h : TB s k f n k' f') (hk : k ≤ s.size + 2) : n ≤ 255 ∧ k' ≤ s.size + 2 := by
  have := bt_lt s k
  rcases h with ⟨_, rfl, rfl, _⟩ | ⟨_, rfl, rfl, _⟩ <;> omega
theorem TN.le {s : ByteArray} {k c k' : Nat} {f f' : Bool} (h : TN s k f c k' f') (hk : k ≤ s.size + 2) : c ≤ 65535 ∧ k' ≤ s.size + 2 := by
  obtain ⟨n1, k1, f1, n2, h1, h2, rfl⟩ := h
  obtain ⟨a, b⟩ := h1.le hk
  obtain ⟨c, d⟩ := h2.le b
  omega
theorem TX.le {s : ByteArray} {k n k' : Nat} {x : ByteArray} {f f' : Bool} (h : TX s k f n x k' f') (hk : k ≤ s.size + 2) : x.size ≤ n ∧ k' ≤ s.size + 2 := by
  rcases h with ⟨a, rfl, rfl, _⟩ | ⟨a, rfl, rfl, _⟩
  · have : (s.extract k (k + n)).size = n := by simp; omega
    omega
  · have : ByteArray.empty.size = 0 := rfl
    omega

theorem TN.head {s : ByteArray} {c k' : Nat} {f' : Bool} (h : TN s 2 false c k' f') : (f' = false → 4 ≤ s.size ∧ c = bt s 2 + 256 * bt s 3 ∧ k' = 4) ∧ (f' = true → s.size < 4) := by
  obtain ⟨n1, k1, f1, n2, h1, h2, rfl⟩ := h
  rcases h1 with ⟨a, rfl, rfl, rfl⟩ | ⟨a, rfl, rfl, rfl⟩ <;> rcases h2 with ⟨b, rfl, rfl, rfl⟩ | ⟨b, rfl, rfl, rfl⟩
  · exact ⟨fun _ => ⟨by omega, rfl, rfl⟩, fun e => by cases e⟩
  · exact ⟨fun e => (by cases e), fun _ => by omega⟩
  · exact ⟨fun e => (by cases e), fun _ => by omega⟩
  · exact ⟨fun e => (by cases e), fun _ => by omega⟩

theorem TB.stay {s : ByteArray} {k n k' : Nat} {f' : Bool} (h : TB s k true n k' f') : f' = true := by rcases h with ⟨_, _, _, h⟩ | ⟨_, _, _, h⟩ <;> exact h
theorem TX.stay {s : ByteArray} {k n k' : Nat} {x : ByteArray} {f' : Bool} (h : TX s k true n x k' f') : f' = true := by rcases h with ⟨_, _, _, h⟩ | ⟨_, _, _, h⟩ <;> exact h
theorem TN.stay {s : ByteArray} {k c k' : Nat} {f' : Bool} (h : TN s k true c k' f') : f' = true := by
  obtain ⟨_, _, f1, _, h1, h2, _⟩ := h
  obtain rfl := h1.stay
  exact h2.stay

theorem took {s : ByteArray} {k n1 k1 n2 k2 k3 c k4 : Nat} {f1 f2 f3 f4 : Bool} {x : ByteArray} (h1 : TB s k false n1 k1 f1) (h2 : TB s k1 f1 n2 k2 f2) (h3 : TX s k2 f2 n2 x k3 f3) (h4 : TN s k3 f3 c k4 f4) :
    (f4 = false → n1 = bt s k ∧ x = s.extract (k + 2) (k + 2 + bt s (k + 1)) ∧ c = bt s (k + 2 + bt s (k + 1)) + 256 * bt s (k + 2 + bt s (k + 1) + 1) ∧ k4 = k + 2 + bt s (k + 1) + 2 ∧ k4 ≤ s.size) ∧
    (f4 = true → s.size < k + 2 + bt s (k + 1) + 2) := by
  rcases h1 with ⟨a1, rfl, rfl, rfl⟩ | ⟨a1, rfl, rfl, rfl⟩
  · rcases h2 with ⟨a2, rfl, rfl, rfl⟩ | ⟨a2, rfl, rfl, rfl⟩
    · rcases h3 with ⟨a3, rfl, rfl, rfl⟩ | ⟨a3, rfl, rfl, rfl⟩
      · obtain ⟨m1, j1, g1, m2, h4, h5, rfl⟩ := h4
        rcases h4 with ⟨a4, rfl, rfl, rfl⟩ | ⟨a4, rfl, rfl, rfl⟩
        · rcases h5 with ⟨a5, rfl, rfl, rfl⟩ | ⟨a5, rfl, rfl, rfl⟩
          · exact ⟨fun _ => ⟨rfl, rfl, rfl, rfl, by omega⟩, fun e => by cases e⟩
          · exact ⟨fun e => (by cases e), fun _ => by omega⟩
        · obtain rfl := h5.stay
          exact ⟨fun e => (by cases e), fun _ => by omega⟩
      · obtain rfl := h4.stay
        exact ⟨fun e => (by cases e), fun _ => by omega⟩
    · obtain rfl := h3.stay
      obtain rfl := h4.stay
      exact ⟨fun e => (by cases e), fun _ => by omega⟩
  · obtain rfl := h2.stay
    obtain rfl := h3.stay
    obtain rfl := h4.stay
    exact ⟨fun e => (by cases e), fun _ => by omega⟩

theorem WordHere.same {s : ByteArray} {k : Nat} {ahead x x' : ByteArray} {c c' k' k'' : Nat} (h : WordHere s k ahead x c k') (h' : WordHere s k ahead x' c' k'') : x = x' ∧ c = c' := ⟨h.word.trans h'.word.symm, h.cost.trans h'.cost.symm⟩

/-- what takeWord answers. -/
def TakeEnd (s : ByteArray) (k : Nat) (ahead x : ByteArray) (c k' : Nat) (f : Bool) : Prop :=
  (f = true ∧ WordHere s k ahead x c k') ∨ (f = false ∧ ∀ x c k', ¬ WordHere s k ahead x c k')

theorem took_bad {s : ByteArray} {k n1 k1 n2 k2 k3 c k4 : Nat} {f1 f2 f3 f4 : Bool} {x ahead : ByteArray} (h1 : TB s k false n1 k1 f1) (h2 : TB s k1 f1 n2 k2 f2) (h3 : TX s k2 f2 n2 x k3 f3) (h4 : TN s k3 f3 c k4 f4)
    (hb : f4 = true ∨ ahead.size < n1 ∨ 1000 < c) : ∀ x c k', ¬ WordHere s k ahead x c k' := by
  intro x' c' k' h
  obtain ⟨hy, hn⟩ := took h1 h2 h3 h4
  cases f4 with
  | true => have := hn rfl; have := h.fit; omega
  | false =>
    obtain ⟨e1, e2, e3, e4, e5⟩ := hy rfl
    rcases hb with e | e | e
    · cases e
    · have := h.com; omega
    · have := h.low; have := h.cost; omega

theorem took_word {s : ByteArray} {k n1 k1 n2 k2 k3 c k4 : Nat} {f1 f2 f3 : Bool} {x ahead : ByteArray} (h1 : TB s k false n1 k1 f1) (h2 : TB s k1 f1 n2 k2 f2) (h3 : TX s k2 f2 n2 x k3 f3) (h4 : TN s k3 f3 c k4 false)
    (ha : n1 ≤ ahead.size) (hc : c ≤ 1000) {f : Bool} (hf : f = true ↔ IsWord (ahead.extract 0 n1 ++ x)) : TakeEnd s k ahead (ahead.extract 0 n1 ++ x) c k4 f := by
  obtain ⟨e1, e2, e3, e4, e5⟩ := (took h1 h2 h3 h4).1 rfl
  cases f with
  | true => exact .inl ⟨rfl, by omega, by omega, by rw [e1, e2], hf.1 rfl, e3, hc, e4⟩
  | false =>
    refine .inr ⟨rfl, fun x' c' k' h => ?_⟩
    have e : x' = ahead.extract 0 n1 ++ x := by rw [h.word, e1, e2]
    have := hf.2 (by rw [← e]; exact h.is)
    cases this

theorem word_unique {x : ByteArray} {n : Nat} (h : WordAt x 0 n) (h1 : 1 ≤ x.size) : n = x.size ↔ IsWord x := by
  rw [isWord_at]
  constructor
  · intro e; rw [e] at h; exact ⟨h1, h⟩
  · rintro ⟨_, h'⟩
    rcases h with ⟨e, a⟩ | ⟨a1, a2, a3, a4, a5, a6⟩
    · rcases h' with ⟨e', _⟩ | ⟨_, _, _, b4, _⟩
      · omega
      · rcases a with a | a
        · omega
        · omega
    · rcases h' with ⟨e', _⟩ | ⟨_, b2, _, _, b5, _⟩
      · omega
      · by_cases en : n = x.size
        · exact en
        · rcases a6 with a6 | a6 | a6
          · omega
          · omega
          · have := b5 (0 + n) (by omega) (by omega)
            omega

end Go.Proofs.YtdofjmfbkpdppaaDoor
/-
  Plain mathematics: the program's writing of an image.
-/
namespace Go.Proofs.YtdofjmfbkpdppaaDoor
set_option linter.unusedSimpArgs false
set_option linter.unusedVariables false

/-- the sum of some bytes. -/
def totL : List UInt8 → Nat
  | [] => 0
  | b :: l => b.toNat + totL l

theorem totL_append (a b : List UInt8) : totL (a ++ b) = totL a + totL b := by
  induction a with
  | nil => simp [totL]
  | cons x a ih => simp only [List.cons_append, totL, ih]; omega

theorem totL_le (l : List UInt8) : totL l ≤ 255 * l.length := by
  induction l with
  | nil => simp [totL]
  | cons x l ih => have := x.toNat_lt; simp only [totL, List.length_cons]; omega

theorem totL_take (l : List UInt8) (i : Nat) (h : i < l.length) : totL (l.take (i + 1)) = totL (l.take i) + l[i].toNat := by
  rw [List.take_succ_eq_append_getElem h, totL_append]; simp [totL]

theorem sumY_go : ∀ (l : List UInt8) (s : UInt8), (l.foldl (fun s b => s - b) s).toNat = (s.toNat + (256 - totL l % 256)) % 256
  | [], s => by have := s.toNat_lt; simp [totL]
  | b :: l, s => by
    have hb := b.toNat_lt
    have hs := s.toNat_lt
    rw [List.foldl_cons, sumY_go l (s - b), UInt8.toNat_sub]
    simp only [totL]
    omega

theorem sumL_tot (l : List UInt8) : sumL l = UInt8.ofNat ((256 - totL l % 256) % 256) := by
  apply UInt8.toNat_inj.1
  unfold sumL
  rw [sumY_go l 0]
  simp

theorem twoL_parts (n : Nat) : twoL n = [UInt8.ofNat (n % 256)] ++ [UInt8.ofNat (n / 256)] := rfl

theorem encE_parts (p w : List UInt8) (c : Nat) : encE p w c = [UInt8.ofNat (lcpL p w)] ++ ([UInt8.ofNat (w.length - lcpL p w)] ++ (w.drop (lcpL p w) ++ twoL c)) := by simp [encE]

theorem prevW_next {D : Dic} {i : Nat} (h : i < D.length) : prevW D (i + 1) = D[i].1.toList := by
  simp only [prevW]; rw [List.getD_eq_getElem?_getD, List.getElem?_eq_getElem h, Option.getD_some]

theorem encTo_next {D : Dic} {i : Nat} (h : i < D.length) : encTo D (i + 1) = encTo D i ++ encE (prevW D i) D[i].1.toList D[i].2 := by
  simp only [encTo]; rw [List.getD_eq_getElem?_getD, List.getElem?_eq_getElem h, Option.getD_some]

/-- two texts as they are compared: how far they agree. -/
def Agree (x y : ByteArray) (n : Nat) : Prop := n ≤ x.size ∧ n ≤ y.size ∧ ∀ j, j < n → bt x j = bt y j

theorem agree_next {x y : ByteArray} {n : Nat} (h : Agree x y n) (hx : n < x.size) (hy : n < y.size) (e : bt x n = bt y n) : Agree x y (n + 1) :=
  ⟨hx, hy, fun j hj => by
    by_cases ej : j = n
    · rw [ej]; exact e
    · exact h.2.2 j (by omega)⟩

theorem bt_someY (s : ByteArray) (i : Nat) (h : i < s.size) : s.toList[i]? = some (UInt8.ofNat (bt s i)) := by
  rw [toList_get s i h, ← bt_get s i h]; simp

theorem bt_injY {s t : ByteArray} {i : Nat} (hs : i < s.size) (ht : i < t.size) : s.toList[i]? = t.toList[i]? ↔ bt s i = bt t i := by
  rw [bt_someY s i hs, bt_someY t i ht]
  have a := bt_lt s i
  have b := bt_lt t i
  constructor
  · intro e
    have e' := congrArg UInt8.toNat (Option.some.inj e)
    rw [u8_of a, u8_of b] at e'
    exact e'
  · intro e; rw [e]

theorem agree_lcp {x y : ByteArray} {n : Nat} (h : Agree x y n) (hs : n = x.size ∨ n = y.size ∨ bt x n ≠ bt y n) : n = lcpL x.toList y.toList := by
  obtain ⟨h1, h2, h3⟩ := h
  apply IsLcp.eq
  rw [IsLcp, toList_length, toList_length]
  refine ⟨h1, h2, fun j hj => (bt_injY (by omega) (by omega)).2 (h3 j hj), ?_⟩
  by_cases e1 : n = x.size
  · exact .inl e1
  · by_cases e2 : n = y.size
    · exact .inr (.inl e2)
    · refine .inr (.inr fun e => ?_)
      rcases hs with a | a | a
      · exact e1 a
      · exact e2 a
      · exact a ((bt_injY (by omega) (by omega)).1 e)

end Go.Proofs.YtdofjmfbkpdppaaDoor
