import Derived.Laws.Strings
/-
  Plain mathematics of lists, bytes and the form of a list. Imports nothing of the dump.
-/
namespace Go.Proofs.YtlfpepehngkehabDoor
set_option linter.unusedSimpArgs false
set_option linter.unusedVariables false

/-- the byte at a place of a text, as a number; nought behind the end. -/
def bt (s : ByteArray) (i : Nat) : Nat := (s.data.toList.getD i 0).toNat

theorem bt_lt (s : ByteArray) (i : Nat) : bt s i < 256 := by unfold bt; exact UInt8.toNat_lt _

theorem bt_get (s : ByteArray) (i : Nat) (h : i < s.size) : s[i].toNat = bt s i := by
  unfold bt
  have h' : i < s.data.toList.length := by simpa using h
  rw [List.getD_eq_getElem?_getD, List.getElem?_eq_getElem h', Option.getD_some]
  rfl

theorem bt_extract (s : ByteArray) (a b i : Nat) (h : i < b - a) (hb : b ≤ s.size) : bt (s.extract a b) i = bt s (a + i) := by
  have h1 : i < (s.extract a b).size := by simp; omega
  have h2 : a + i < s.size := by omega
  rw [← bt_get _ _ h1, ← bt_get _ _ h2]
  simp [ByteArray.getElem_extract]

/-- the sort of a byte. -/
def srt (c : Nat) : Nat :=
  if 97 ≤ c ∧ c ≤ 122 then 1 else if 65 ≤ c ∧ c ≤ 90 then 2 else if 48 ≤ c ∧ c ≤ 57 then 3 else if c = 126 then 4 else if c = 32 then 5 else 0

theorem srt_le (c : Nat) : srt c ≤ 5 := by unfold srt; repeat (split <;> try omega)
theorem srt_1 {c : Nat} : srt c = 1 ↔ 97 ≤ c ∧ c ≤ 122 := by unfold srt; repeat (split <;> try omega)
theorem srt_2 {c : Nat} : srt c = 2 ↔ 65 ≤ c ∧ c ≤ 90 := by unfold srt; repeat (split <;> try omega)
theorem srt_3 {c : Nat} : srt c = 3 ↔ 48 ≤ c ∧ c ≤ 57 := by unfold srt; repeat (split <;> try omega)
theorem srt_4 {c : Nat} : srt c = 4 ↔ c = 126 := by unfold srt; repeat (split <;> try omega)

/-- a word of n bytes stands at k, as far as it can. -/
def WordAt (s : ByteArray) (k n : Nat) : Prop :=
  (n = 0 ∧ (s.size ≤ k ∨ (srt (bt s k) ≠ 1 ∧ srt (bt s k) ≠ 2))) ∨
  (1 ≤ n ∧ n ≤ 12 ∧ k + n ≤ s.size ∧ (srt (bt s k) = 1 ∨ srt (bt s k) = 2) ∧ (∀ j, k < j → j < k + n → srt (bt s j) = srt (bt s k) ∨ srt (bt s j) = 4) ∧
    (k + n = s.size ∨ n = 12 ∨ (srt (bt s (k + n)) ≠ srt (bt s k) ∧ srt (bt s (k + n)) ≠ 4)))

/-- n digits stand at k, as far as they can, four at most. -/
def DigitsAt (s : ByteArray) (k n : Nat) : Prop :=
  n ≤ 4 ∧ k + n ≤ s.size ∧ (∀ j, k ≤ j → j < k + n → srt (bt s j) = 3) ∧ (k + n = s.size ∨ n = 4 ∨ srt (bt s (k + n)) ≠ 3)

/-- the number that n digits at k write. -/
def num (s : ByteArray) (k : Nat) : Nat → Nat
  | 0 => 0
  | n + 1 => 10 * num s k n + (bt s (k + n) - 48)

theorem num_le (s : ByteArray) (k n : Nat) (h : ∀ j, k ≤ j → j < k + n → srt (bt s j) = 3) : num s k n + 1 ≤ 10 ^ n := by
  induction n with
  | zero => simp [num]
  | succ n ih =>
    have h1 := ih fun j hj hj' => h j hj (by omega)
    have h2 := srt_3.1 (h (k + n) (by omega) (by omega))
    simp only [num, Nat.pow_succ]
    omega

theorem num_4 (s : ByteArray) (k n : Nat) (hn : n ≤ 4) (h : ∀ j, k ≤ j → j < k + n → srt (bt s j) = 3) : num s k n ≤ 9999 := by
  have h1 := num_le s k n h
  have h2 : 10 ^ n ≤ 10 ^ 4 := Nat.pow_le_pow_right (by omega) hn
  have h3 : (10 : Nat) ^ 4 = 10000 := rfl
  omega

theorem num_extract (s : ByteArray) (a b n : Nat) (h : n ≤ b - a) (hb : b ≤ s.size) : num (s.extract a b) 0 n = num s a n := by
  induction n with
  | zero => rfl
  | succ n ih =>
    simp only [num, Nat.zero_add]
    rw [ih (by omega), bt_extract _ _ _ _ (by omega) hb]

/-- what a list says of one word. -/
structure Ent where
  word : ByteArray
  inn : Bool
  cost : Nat
  dig : Nat

def GoodEntry (s : ByteArray) (k : Nat) (x : Ent) (p : Nat) : Prop :=
  ∃ n, WordAt s k n ∧ 1 ≤ n ∧ k + n < s.size ∧ x.word = s.extract k (k + n) ∧
    ((bt s (k + n) = 33 ∧ x.inn = false ∧ x.cost = 0 ∧ x.dig = 0 ∧ p = k + n + 1) ∨
     (bt s (k + n) = 61 ∧ ∃ m, 1 ≤ m ∧ DigitsAt s (k + n + 1) m ∧ x.inn = true ∧ x.cost = num s (k + n + 1) m ∧ x.dig = k + n + 1 ∧ p = k + n + 1 + m))

def BadEntry (s : ByteArray) (k p : Nat) : Prop :=
  ∃ n, WordAt s k n ∧ (((n = 0 ∨ k + n = s.size) ∧ p = k + n) ∨ (1 ≤ n ∧ k + n < s.size ∧ bt s (k + n) ≠ 33 ∧ bt s (k + n) ≠ 61 ∧ p = k + n) ∨
    (1 ≤ n ∧ k + n < s.size ∧ bt s (k + n) = 61 ∧ DigitsAt s (k + n + 1) 0 ∧ p = k + n + 1))

theorem WordAt.le {s : ByteArray} {k n : Nat} (h : WordAt s k n) : n ≤ 12 ∧ (1 ≤ n → k + n ≤ s.size) := by
  rcases h with ⟨rfl, _⟩ | ⟨h1, h2, h3, _⟩
  · omega
  · omega

theorem DigitsAt.le {s : ByteArray} {k n : Nat} (h : DigitsAt s k n) : n ≤ 4 ∧ k + n ≤ s.size := ⟨h.1, h.2.1⟩

/-- the entries E, each with a comma behind it, lead from k to q. -/
def Chain (s : ByteArray) : Nat → List Ent → Nat → Prop
  | k, [], q => q = k
  | k, x :: E, q => ∃ p, GoodEntry s k x p ∧ p < s.size ∧ bt s p = 44 ∧ Chain s (p + 1) E q

theorem Chain.snoc {s : ByteArray} {x : Ent} {p q : Nat} : ∀ {E : List Ent} {k : Nat}, Chain s k E q → GoodEntry s q x p → p < s.size → bt s p = 44 → Chain s k (E ++ [x]) (p + 1)
  | [], k, h, hg, hp, hb => by cases h; exact ⟨p, hg, hp, hb, rfl⟩
  | y :: E, k, h, hg, hp, hb => by
    obtain ⟨r, h1, h2, h3, h4⟩ := h
    exact ⟨r, h1, h2, h3, Chain.snoc h4 hg hp hb⟩

def GoodList (s : ByteArray) (E : List Ent) : Prop :=
  (E = [] ∧ s.size = 0) ∨ ∃ E' x q, E = E' ++ [x] ∧ Chain s 0 E' q ∧ GoodEntry s q x s.size

def BadList (s : ByteArray) (p : Nat) : Prop :=
  ∃ E q, Chain s 0 E q ∧ ((q < s.size ∧ BadEntry s q p) ∨ (∃ x, GoodEntry s q x p ∧ p < s.size ∧ bt s p ≠ 44) ∨ (q = s.size ∧ q ≠ 0 ∧ p = q))

theorem GoodEntry.le {s : ByteArray} {k p : Nat} {x : Ent} (h : GoodEntry s k x p) : k + 2 ≤ p ∧ p ≤ s.size ∧ x.cost ≤ 9999 ∧ x.dig ≤ s.size := by
  obtain ⟨n, hw, h1, h2, _, h3⟩ := h
  rcases h3 with ⟨_, _, h4, h5, h6⟩ | ⟨_, m, h3, h4, _, h5, h6, h7⟩
  · omega
  · have h8 := h4.le
    have h9 := num_4 s (k + n + 1) m h8.1 h4.2.2.1
    omega

theorem BadEntry.le {s : ByteArray} {k p : Nat} (h : BadEntry s k p) (hk : k ≤ s.size) : k ≤ p ∧ p ≤ s.size := by
  obtain ⟨n, hw, h3⟩ := h
  have h1 := hw.le
  rcases h3 with ⟨h4, h5⟩ | ⟨h2, h4, _, _, h5⟩ | ⟨h2, h4, _, _, h5⟩
  · rcases h4 with h | h <;> omega
  · omega
  · omega

end Go.Proofs.YtlfpepehngkehabDoor
/-
  Plain mathematics: words in their order; dictionaries.
-/
namespace Go.Proofs.YtlfpepehngkehabDoor
set_option linter.unusedSimpArgs false
set_option linter.unusedVariables false

theorem bl_irrefl : ∀ l : List UInt8, Op.bytesLess l l = false
  | [] => rfl
  | a :: l => by simp [Op.bytesLess, bl_irrefl l]

theorem bl_trans : ∀ a b c : List UInt8, Op.bytesLess a b = true → Op.bytesLess b c = true → Op.bytesLess a c = true
  | _, [], _, h, _ => by simp [Op.bytesLess] at h
  | _, _ :: _, [], _, h => by simp [Op.bytesLess] at h
  | [], _ :: _, _ :: _, _, _ => rfl
  | x :: a, y :: b, z :: c, h, k => by
    simp only [Op.bytesLess, Bool.or_eq_true, Bool.and_eq_true, decide_eq_true_eq, beq_iff_eq] at h k ⊢
    rcases h with h | ⟨rfl, h⟩
    · rcases k with k | ⟨rfl, k⟩
      · exact .inl (UInt8.lt_trans h k)
      · exact .inl h
    · rcases k with k | ⟨rfl, k⟩
      · exact .inl k
      · exact .inr ⟨rfl, bl_trans a b c h k⟩

theorem bl_tri : ∀ a b : List UInt8, Op.bytesLess a b = false → Op.bytesLess b a = false → a = b
  | [], [], _, _ => rfl
  | [], _ :: _, h, _ => by simp [Op.bytesLess] at h
  | _ :: _, [], _, h => by simp [Op.bytesLess] at h
  | x :: a, y :: b, h, k => by
    simp only [Op.bytesLess, Bool.or_eq_false_iff, Bool.and_eq_false_iff, decide_eq_false_iff_not, beq_eq_false_iff_ne] at h k
    have hxy : x = y := UInt8.le_antisymm (UInt8.not_lt.1 k.1) (UInt8.not_lt.1 h.1)
    subst hxy
    rw [bl_tri a b (by rcases h.2 with h | h; exact absurd rfl h; exact h) (by rcases k.2 with h | h; exact absurd rfl h; exact h)]

/-- a word that begins another stands ahead of it. -/
theorem bl_prefix : ∀ (a b : List UInt8), b ≠ [] → Op.bytesLess a (a ++ b) = true
  | [], [], h => absurd rfl h
  | [], _ :: _, _ => rfl
  | x :: a, b, h => by simp [Op.bytesLess, bl_prefix a b h]

theorem ba_ext {a b : ByteArray} (h : a.toList = b.toList) : a = b := by
  rw [ByteArray.toList_eq, ByteArray.toList_eq] at h
  obtain ⟨⟨a⟩⟩ := a
  obtain ⟨⟨b⟩⟩ := b
  simp at h
  rw [h]

def wl (a b : ByteArray) : Bool := Op.bytesLess a.toList b.toList
theorem wl_irrefl (a : ByteArray) : wl a a = false := bl_irrefl _
theorem wl_trans {a b c : ByteArray} : wl a b = true → wl b c = true → wl a c = true := bl_trans _ _ _
theorem wl_tri {a b : ByteArray} (h : wl a b = false) (k : wl b a = false) : a = b := ba_ext (bl_tri _ _ h k)
theorem wl_asymm {a b : ByteArray} (h : wl a b = true) : wl b a = false := by
  cases e : wl b a with
  | false => rfl
  | true => have := wl_trans h e; rw [wl_irrefl] at this; cases this
theorem wl_ne {a b : ByteArray} (h : wl a b = true) : a ≠ b := fun e => by rw [e, wl_irrefl] at h; cases h

abbrev Dic := List (ByteArray × Nat)

def Srt (D : Dic) : Prop := D.Pairwise fun a b => wl a.1 b.1 = true

theorem srt_unique : ∀ {D D' : Dic}, Srt D → Srt D' → (∀ p, p ∈ D ↔ p ∈ D') → D = D'
  | [], [], _, _, _ => rfl
  | [], p :: D', _, _, h => by have := (h p).2 (List.mem_cons_self); cases this
  | p :: D, [], _, _, h => by have := (h p).1 (List.mem_cons_self); cases this
  | p :: D, q :: D', hD, hD', h => by
    obtain ⟨h1, h2⟩ := List.pairwise_cons.1 hD
    obtain ⟨h3, h4⟩ := List.pairwise_cons.1 hD'
    have e : p = q := by
      rcases List.mem_cons.1 ((h p).1 List.mem_cons_self) with e | e
      · exact e
      · rcases List.mem_cons.1 ((h q).2 List.mem_cons_self) with e' | e'
        · exact e'.symm
        · have a := h1 q e'
          have b := h3 p e
          rw [wl_asymm a] at b
          cases b
    subst e
    rw [srt_unique h2 h4]
    intro x
    constructor
    · intro hx
      rcases List.mem_cons.1 ((h x).1 (List.mem_cons_of_mem _ hx)) with e | e
      · subst e
        have := h1 x hx
        rw [wl_irrefl] at this
        cases this
      · exact e
    · intro hx
      rcases List.mem_cons.1 ((h x).2 (List.mem_cons_of_mem _ hx)) with e | e
      · subst e
        have := h3 x hx
        rw [wl_irrefl] at this
        cases this
      · exact e

/-- of one word there is one cost. -/
theorem srt_one {D : Dic} (h : Srt D) {w : ByteArray} {c c' : Nat} (h1 : (w, c) ∈ D) (h2 : (w, c') ∈ D) : c = c' := by
  induction D with
  | nil => cases h1
  | cons p D ih =>
    obtain ⟨a, b⟩ := List.pairwise_cons.1 h
    rcases List.mem_cons.1 h1 with e1 | e1
    · rcases List.mem_cons.1 h2 with e2 | e2
      · rw [← e1] at e2; cases e2; rfl
      · have := a _ e2; rw [← e1] at this; simp [wl_irrefl] at this
    · rcases List.mem_cons.1 h2 with e2 | e2
      · have := a _ e1; rw [← e2] at this; simp [wl_irrefl] at this
      · exact ih b e1 e2

/-- where a word stands, or would have to be put. -/
def SplitAt (D : Dic) (w : ByteArray) (k : Nat) : Prop :=
  k ≤ D.length ∧ (∀ j (h : j < D.length), j < k → wl D[j].1 w = true) ∧ ∀ j (h : j < D.length), k ≤ j → wl D[j].1 w = false

theorem SplitAt.parts {D : Dic} {w : ByteArray} {k : Nat} (h : SplitAt D w k) : ∃ L R, D = L ++ R ∧ L.length = k ∧ (∀ p ∈ L, wl p.1 w = true) ∧ (∀ p ∈ R, wl p.1 w = false) := by
  obtain ⟨h0, h1, h2⟩ := h
  refine ⟨D.take k, D.drop k, (List.take_append_drop k D).symm, by simp; omega, ?_, ?_⟩
  · intro p hp
    obtain ⟨j, hj, rfl⟩ := List.mem_iff_getElem.1 hp
    simp at hj
    rw [List.getElem_take]
    exact h1 j (by omega) (by omega)
  · intro p hp
    obtain ⟨j, hj, rfl⟩ := List.mem_iff_getElem.1 hp
    simp at hj
    rw [List.getElem_drop]
    exact h2 (k + j) (by omega) (by omega)

theorem srt_insert {L R : Dic} {w : ByteArray} (c : Nat) (h : Srt (L ++ R)) (h1 : ∀ p ∈ L, wl p.1 w = true) (h2 : ∀ p ∈ R, wl w p.1 = true) : Srt (L ++ (w, c) :: R) := by
  unfold Srt at h ⊢
  rw [List.pairwise_append] at h ⊢
  obtain ⟨a, b, d⟩ := h
  refine ⟨a, List.pairwise_cons.2 ⟨fun p hp => h2 p hp, b⟩, fun x hx y hy => ?_⟩
  rcases List.mem_cons.1 hy with e | e
  · rw [e]; exact h1 x hx
  · exact d x hx y e

theorem srt_erase {L R : Dic} {p : ByteArray × Nat} (h : Srt (L ++ p :: R)) : Srt (L ++ R) := by
  unfold Srt at h ⊢
  rw [List.pairwise_append] at h ⊢
  obtain ⟨a, b, d⟩ := h
  exact ⟨a, (List.pairwise_cons.1 b).2, fun x hx y hy => d x hx y (List.mem_cons_of_mem _ hy)⟩

/-- the one that is found: the rest lies behind it. -/
theorem found_split {L R : Dic} {w : ByteArray} {c : Nat} (h : Srt (L ++ (w, c) :: R)) : (∀ p ∈ L, wl p.1 w = true) ∧ ∀ p ∈ R, wl w p.1 = true := by
  unfold Srt at h
  rw [List.pairwise_append] at h
  obtain ⟨_, b, d⟩ := h
  exact ⟨fun p hp => d p hp _ List.mem_cons_self, (List.pairwise_cons.1 b).1⟩

/-! what entries say -/
def stepE (x : Ent) (w : ByteArray) (o : Option Nat) : Option Nat := if x.word = w then (if x.inn = true then some x.cost else none) else o
def eff (E : List Ent) (w : ByteArray) : Option Nat := E.foldl (fun o x => stepE x w o) none
theorem eff_snoc (E : List Ent) (x : Ent) (w : ByteArray) : eff (E ++ [x]) w = stepE x w (eff E w) := by simp [eff]

def Rep (D : Dic) (E : List Ent) : Prop := Srt D ∧ ∀ w c, (w, c) ∈ D ↔ eff E w = some c

theorem Rep.nil : Rep [] [] := ⟨List.Pairwise.nil, fun w c => by simp [eff]⟩

theorem Rep.unique {D D' : Dic} {E : List Ent} (h : Rep D E) (h' : Rep D' E) : D = D' :=
  srt_unique h.1 h'.1 fun p => by rw [show p = (p.1, p.2) from rfl, h.2, h'.2]

theorem mem_insert {L R : Dic} {w v : ByteArray} {c d : Nat} : (v, d) ∈ L ++ (w, c) :: R ↔ (v = w ∧ d = c) ∨ (v, d) ∈ L ++ R := by
  simp only [List.mem_append, List.mem_cons, Prod.mk.injEq]
  constructor
  · rintro (h | ⟨rfl, rfl⟩ | h)
    · exact .inr (.inl h)
    · exact .inl ⟨rfl, rfl⟩
    · exact .inr (.inr h)
  · rintro (⟨rfl, rfl⟩ | h | h)
    · exact .inr (.inl ⟨rfl, rfl⟩)
    · exact .inl h
    · exact .inr (.inr h)

theorem Rep.put_new {L R : Dic} {E : List Ent} {x : Ent} (h : Rep (L ++ R) E) (hx : x.inn = true) (h1 : ∀ p ∈ L, wl p.1 x.word = true) (h2 : ∀ p ∈ R, wl x.word p.1 = true) : Rep (L ++ (x.word, x.cost) :: R) (E ++ [x]) := by
  obtain ⟨hs, hm⟩ := h
  refine ⟨srt_insert _ hs h1 h2, fun w c => ?_⟩
  rw [mem_insert, eff_snoc, hm]
  unfold stepE
  by_cases e : x.word = w
  · subst e
    rw [if_pos rfl, if_pos hx]
    constructor
    · rintro (⟨_, rfl⟩ | h)
      · rfl
      · rw [← hm, List.mem_append] at h
        rcases h with h | h
        · exact absurd rfl (wl_ne (h1 _ h))
        · exact absurd rfl (wl_ne (h2 _ h)).symm
    · intro h; cases h; exact .inl ⟨rfl, rfl⟩
  · rw [if_neg e]
    constructor
    · rintro (⟨rfl, _⟩ | h)
      · exact absurd rfl e
      · exact h
    · exact .inr

theorem Rep.put_old {L R : Dic} {E : List Ent} {x : Ent} {c0 : Nat} (h : Rep (L ++ (x.word, c0) :: R) E) (hx : x.inn = true) : Rep (L ++ (x.word, x.cost) :: R) (E ++ [x]) := by
  obtain ⟨hs, hm⟩ := h
  obtain ⟨h1, h2⟩ := found_split hs
  refine ⟨srt_insert _ (srt_erase hs) h1 h2, fun w c => ?_⟩
  rw [mem_insert, eff_snoc]
  unfold stepE
  by_cases e : x.word = w
  · subst e
    rw [if_pos rfl, if_pos hx]
    constructor
    · rintro (⟨_, rfl⟩ | h)
      · rfl
      · rw [List.mem_append] at h
        rcases h with h | h
        · exact absurd rfl (wl_ne (h1 _ h))
        · exact absurd rfl (wl_ne (h2 _ h)).symm
    · intro h; cases h; exact .inl ⟨rfl, rfl⟩
  · rw [if_neg e, ← hm, mem_insert]
    constructor
    · rintro (⟨rfl, _⟩ | h)
      · exact absurd rfl e
      · exact .inr h
    · rintro (⟨rfl, _⟩ | h)
      · exact absurd rfl e
      · exact .inr h

theorem Rep.drop_old {L R : Dic} {E : List Ent} {x : Ent} {c0 : Nat} (h : Rep (L ++ (x.word, c0) :: R) E) (hx : x.inn = false) : Rep (L ++ R) (E ++ [x]) := by
  obtain ⟨hs, hm⟩ := h
  obtain ⟨h1, h2⟩ := found_split hs
  refine ⟨srt_erase hs, fun w c => ?_⟩
  rw [eff_snoc]
  unfold stepE
  by_cases e : x.word = w
  · subst e
    rw [if_pos rfl, hx]
    simp only [Bool.false_eq_true, if_false]
    constructor
    · intro h
      rw [List.mem_append] at h
      rcases h with h | h
      · exact absurd rfl (wl_ne (h1 _ h))
      · exact absurd rfl (wl_ne (h2 _ h)).symm
    · intro h; cases h
  · rw [if_neg e, ← hm, mem_insert]
    constructor
    · exact .inr
    · rintro (⟨rfl, _⟩ | h)
      · exact absurd rfl e
      · exact h

theorem Rep.drop_none {D : Dic} {E : List Ent} {x : Ent} (h : Rep D E) (hx : x.inn = false) (hn : ∀ c, (x.word, c) ∉ D) : Rep D (E ++ [x]) := by
  obtain ⟨hs, hm⟩ := h
  refine ⟨hs, fun w c => ?_⟩
  rw [eff_snoc]
  unfold stepE
  by_cases e : x.word = w
  · subst e
    rw [if_pos rfl, hx]
    simp only [Bool.false_eq_true, if_false]
    constructor
    · intro h; exact absurd h (hn c)
    · intro h; cases h
  · rw [if_neg e]; exact hm w c

/-! from the last entry on -/
def Has (S : List Ent) (w : ByteArray) : Prop := ∃ y ∈ S, y.word = w

theorem foldl_has (S : List Ent) (w : ByteArray) (o : Option Nat) : (Has S w → S.foldl (fun o x => stepE x w o) o = eff S w) ∧ (¬ Has S w → S.foldl (fun o x => stepE x w o) o = o) := by
  induction S generalizing o with
  | nil => exact ⟨(fun h => by obtain ⟨y, hy, _⟩ := h; cases hy), fun _ => rfl⟩
  | cons x S ih =>
    by_cases hS : Has S w
    · refine ⟨fun _ => ?_, fun h => absurd ?_ h⟩
      · show S.foldl _ (stepE x w o) = S.foldl _ (stepE x w none)
        rw [(ih _).1 hS, (ih _).1 hS]
      · obtain ⟨y, hy, e⟩ := hS; exact ⟨y, List.mem_cons_of_mem _ hy, e⟩
    · refine ⟨fun h => ?_, fun h => ?_⟩
      · show S.foldl _ (stepE x w o) = S.foldl _ (stepE x w none)
        rw [(ih _).2 hS, (ih _).2 hS]
        obtain ⟨y, hy, e⟩ := h
        rcases List.mem_cons.1 hy with rfl | hy
        · simp [stepE, e]
        · exact absurd ⟨y, hy, e⟩ hS
      · show S.foldl _ (stepE x w o) = o
        rw [(ih _).2 hS]
        have : x.word ≠ w := fun e => h ⟨x, List.mem_cons_self, e⟩
        simp [stepE, this]

theorem eff_cons_has {S : List Ent} {x : Ent} {w : ByteArray} (h : Has S w) : eff (x :: S) w = eff S w := (foldl_has S w (stepE x w none)).1 h
theorem eff_cons_no {S : List Ent} {x : Ent} {w : ByteArray} (h : ¬ Has S w) : eff (x :: S) w = stepE x w none := (foldl_has S w (stepE x w none)).2 h
theorem eff_no {S : List Ent} {w : ByteArray} (h : ¬ Has S w) : eff S w = none := (foldl_has S w none).2 h

theorem Rep.cons_met {D : Dic} {S : List Ent} {x : Ent} (h : Rep D S) (hx : Has S x.word) : Rep D (x :: S) := by
  refine ⟨h.1, fun w c => ?_⟩
  rw [h.2]
  by_cases hw : Has S w
  · rw [eff_cons_has hw]
  · rw [eff_cons_no hw, eff_no hw]
    have : x.word ≠ w := fun e => hw (e ▸ hx)
    simp [stepE, this]

theorem Rep.cons_out {D : Dic} {S : List Ent} {x : Ent} (h : Rep D S) (hi : x.inn = false) : Rep D (x :: S) := by
  refine ⟨h.1, fun w c => ?_⟩
  rw [h.2]
  by_cases hw : Has S w
  · rw [eff_cons_has hw]
  · rw [eff_cons_no hw, eff_no hw]
    simp [stepE, hi]

theorem Rep.cons_in {L R : Dic} {S : List Ent} {x : Ent} (h : Rep (L ++ R) S) (hn : ¬ Has S x.word) (hi : x.inn = true) (h1 : ∀ p ∈ L, wl p.1 x.word = true) (h2 : ∀ p ∈ R, wl x.word p.1 = true) : Rep (L ++ (x.word, x.cost) :: R) (x :: S) := by
  refine ⟨srt_insert _ h.1 h1 h2, fun w c => ?_⟩
  rw [mem_insert, h.2]
  by_cases hw : Has S w
  · rw [eff_cons_has hw]
    constructor
    · rintro (⟨rfl, _⟩ | h)
      · exact absurd hw hn
      · exact h
    · exact .inr
  · rw [eff_cons_no hw, eff_no hw]
    unfold stepE
    by_cases e : x.word = w
    · subst e
      rw [if_pos rfl, if_pos hi]
      constructor
      · rintro (⟨_, rfl⟩ | h)
        · rfl
        · cases h
      · intro h; cases h; exact .inl ⟨rfl, rfl⟩
    · rw [if_neg e]
      constructor
      · rintro (⟨rfl, _⟩ | h)
        · exact absurd rfl e
        · exact h
      · exact .inr

end Go.Proofs.YtlfpepehngkehabDoor
/-
  Plain mathematics: images.
-/
namespace Go.Proofs.YtlfpepehngkehabDoor
set_option linter.unusedSimpArgs false
set_option linter.unusedVariables false

def twoL (n : Nat) : List UInt8 := [UInt8.ofNat (n % 256), UInt8.ofNat (n / 256)]

/-- how many bytes two words have in common at their beginning. -/
def lcpL : List UInt8 → List UInt8 → Nat
  | a :: x, b :: y => if a = b then lcpL x y + 1 else 0
  | _, _ => 0

theorem lcpL_le : ∀ x y : List UInt8, lcpL x y ≤ x.length ∧ lcpL x y ≤ y.length
  | [], y => by simp [lcpL]
  | _ :: _, [] => by simp [lcpL]
  | a :: x, b :: y => by
    have := lcpL_le x y
    simp only [lcpL]
    split <;> simp <;> omega

/-- what tells it. -/
def IsLcp (x y : List UInt8) (n : Nat) : Prop := n ≤ x.length ∧ n ≤ y.length ∧ (∀ j, j < n → x[j]? = y[j]?) ∧ (n = x.length ∨ n = y.length ∨ x[n]? ≠ y[n]?)

theorem IsLcp.eq : ∀ {x y : List UInt8} {n : Nat}, IsLcp x y n → n = lcpL x y
  | [], y, n, h => by obtain ⟨h1, _⟩ := h; simp at h1; subst h1; simp [lcpL]
  | a :: x, [], n, h => by obtain ⟨_, h1, _⟩ := h; simp at h1; subst h1; simp [lcpL]
  | a :: x, b :: y, 0, h => by
    obtain ⟨_, _, _, h⟩ := h
    simp only [lcpL]
    rcases h with h | h | h
    · simp at h
    · simp at h
    · simp at h; rw [if_neg h]
  | a :: x, b :: y, n + 1, h => by
    obtain ⟨h1, h2, h3, h4⟩ := h
    have e : a = b := by have := h3 0 (by omega); simpa using this
    simp only [lcpL]
    rw [if_pos e]
    have : IsLcp x y n := ⟨by simpa using h1, by simpa using h2, fun j hj => by have := h3 (j + 1) (by omega); simpa using this, by
      rcases h4 with h | h | h
      · exact .inl (by simpa using h)
      · exact .inr (.inl (by simpa using h))
      · exact .inr (.inr (by simpa using h))⟩
    rw [this.eq]

def prevW (D : Dic) (i : Nat) : List UInt8 := match i with
  | 0 => []
  | j + 1 => (D.getD j (ByteArray.empty, 0)).1.toList

def encE (prev w : List UInt8) (c : Nat) : List UInt8 := [UInt8.ofNat (lcpL prev w), UInt8.ofNat (w.length - lcpL prev w)] ++ w.drop (lcpL prev w) ++ twoL c

def encTo (D : Dic) : Nat → List UInt8
  | 0 => [87, 67] ++ twoL D.length
  | i + 1 => encTo D i ++ encE (prevW D i) (D.getD i (ByteArray.empty, 0)).1.toList (D.getD i (ByteArray.empty, 0)).2

def sumL (l : List UInt8) : UInt8 := l.foldl (fun s b => s - b) 0

def imageL (D : Dic) : List UInt8 := encTo D D.length ++ [sumL (encTo D D.length)]

theorem encE_length (p w : List UInt8) (c : Nat) : (encE p w c).length ≤ w.length + 4 := by
  have := lcpL_le p w
  simp [encE, twoL]

theorem encTo_length {D : Dic} (hw : ∀ p ∈ D, p.1.size ≤ 12) : ∀ i, i ≤ D.length → (encTo D i).length ≤ 4 + i * 16
  | 0, _ => by simp [encTo, twoL]
  | i + 1, h => by
    have h1 := encTo_length hw i (by omega)
    have h2 := encE_length (prevW D i) (D.getD i (ByteArray.empty, 0)).1.toList (D.getD i (ByteArray.empty, 0)).2
    have h3 : (D.getD i (ByteArray.empty, 0)).1.toList.length ≤ 12 := by
      rw [List.getD_eq_getElem?_getD, List.getElem?_eq_getElem (show i < D.length by omega), Option.getD_some, ByteArray.toList_eq]
      exact hw _ (List.getElem_mem (by omega))
    simp only [encTo, List.length_append]
    omega

theorem toList_append (a b : ByteArray) : (a ++ b).toList = a.toList ++ b.toList := by
  rw [ByteArray.toList_eq, ByteArray.toList_eq, ByteArray.toList_eq]
  simp [ByteArray.data_append]

theorem toList_length (a : ByteArray) : a.toList.length = a.size := by rw [ByteArray.toList_eq]; rfl

theorem toList_get (a : ByteArray) (i : Nat) (h : i < a.size) : a.toList[i]? = some a[i] := by
  rw [ByteArray.toList_eq]
  have h' : i < a.data.toList.length := by simpa using h
  rw [List.getElem?_eq_getElem h']
  rfl

end Go.Proofs.YtlfpepehngkehabDoor
/-
  Plain mathematics: what can be read of a text that may be an image.
-/
namespace Go.Proofs.YtlfpepehngkehabDoor
set_option linter.unusedSimpArgs false
set_option linter.unusedVariables false

/-- what is read from a place on: the last word that was read; how many steps at most. -/
def guessG (s : ByteArray) : Nat → Nat → ByteArray → Dic
  | 0, _, _ => []
  | f + 1, at', last =>
    if at' + 5 ≤ s.size ∧ bt s at' ≤ last.size ∧ at' + 2 + bt s (at' + 1) + 3 ≤ s.size then
      (last.extract 0 (bt s at') ++ s.extract (at' + 2) (at' + 2 + bt s (at' + 1)), bt s (at' + 2 + bt s (at' + 1)) + 256 * bt s (at' + 2 + bt s (at' + 1) + 1)) ::
        guessG s f (at' + 2 + bt s (at' + 1) + 2) (last.extract 0 (bt s at') ++ s.extract (at' + 2) (at' + 2 + bt s (at' + 1)))
    else []

def guessD (s : ByteArray) : Dic := guessG s s.size 4 ByteArray.empty

theorem guessG_stop {s : ByteArray} {f k : Nat} {last : ByteArray} (h : ¬ (k + 5 ≤ s.size ∧ bt s k ≤ last.size ∧ k + 2 + bt s (k + 1) + 3 ≤ s.size)) : guessG s f k last = [] := by
  cases f with
  | zero => rfl
  | succ f => simp only [guessG]; rw [if_neg h]

theorem guessG_step {s : ByteArray} {f k : Nat} {last : ByteArray} (hf : s.size ≤ f + k) (h1 : k + 5 ≤ s.size) (h2 : bt s k ≤ last.size) (h3 : k + 2 + bt s (k + 1) + 3 ≤ s.size) :
    ∃ f', s.size ≤ f' + (k + 2 + bt s (k + 1) + 2) ∧ guessG s f k last =
      (last.extract 0 (bt s k) ++ s.extract (k + 2) (k + 2 + bt s (k + 1)), bt s (k + 2 + bt s (k + 1)) + 256 * bt s (k + 2 + bt s (k + 1) + 1)) ::
        guessG s f' (k + 2 + bt s (k + 1) + 2) (last.extract 0 (bt s k) ++ s.extract (k + 2) (k + 2 + bt s (k + 1))) := by
  cases f with
  | zero => omega
  | succ f => exact ⟨f, by omega, by simp only [guessG]; rw [if_pos ⟨h1, h2, h3⟩]⟩

end Go.Proofs.YtlfpepehngkehabDoor
/-
  Plain mathematics: the reference's automaton.
-/
namespace Go.Proofs.YtlfpepehngkehabDoor
set_option linter.unusedSimpArgs false
set_option linter.unusedVariables false

/-! the reference: the form of a list by states -/
def smB (c : Nat) : Bool := decide (97 ≤ c ∧ c ≤ 122)
def cpB (c : Nat) : Bool := decide (65 ≤ c ∧ c ≤ 90)
def dgB (c : Nat) : Bool := decide (48 ≤ c ∧ c ≤ 57)

structure St where
  st : Nat
  n : Nat
  sm : Bool
  cost : Nat

def lts (f : St) (c : Nat) : St × Bool :=
  if (((c : Int) == 126 || (f.sm && smB c)) || (!f.sm && cpB c)) && decide (f.n < 12) then (⟨f.st, f.n + 1, f.sm, f.cost⟩, true)
  else if (c : Int) == 61 then (⟨3, 0, false, 0⟩, true) else if (c : Int) == 33 then (⟨5, 0, false, 0⟩, true) else (f, false)

def nxt (f : St) (c : Nat) : St × Bool :=
  if f.st = 0 ∨ f.st = 1 then (⟨2, 1, smB c, 0⟩, smB c || cpB c)
  else if f.st = 2 then lts f c
  else if f.st = 5 then (⟨1, 0, false, 0⟩, (c : Int) == 44)
  else if dgB c && decide (f.n < 4) then (⟨4, f.n + 1, false, 10 * f.cost + (c - 48)⟩, true)
  else (⟨1, 0, false, 0⟩, f.st == 4 && (c : Int) == 44)

theorem kinds (c : Nat) :
    (smB c = false ∧ cpB c = false ∧ ((c : Int) == 126) = true ∧ ((c : Int) == 61) = false ∧ ((c : Int) == 33) = false) ∨
    (smB c = false ∧ cpB c = false ∧ ((c : Int) == 126) = false ∧ ((c : Int) == 61) = true ∧ ((c : Int) == 33) = false) ∨
    (smB c = false ∧ cpB c = false ∧ ((c : Int) == 126) = false ∧ ((c : Int) == 61) = false ∧ ((c : Int) == 33) = true) ∨
    (smB c = true ∧ cpB c = false ∧ ((c : Int) == 126) = false ∧ ((c : Int) == 61) = false ∧ ((c : Int) == 33) = false) ∨
    (smB c = false ∧ cpB c = true ∧ ((c : Int) == 126) = false ∧ ((c : Int) == 61) = false ∧ ((c : Int) == 33) = false) ∨
    (smB c = false ∧ cpB c = false ∧ ((c : Int) == 126) = false ∧ ((c : Int) == 61) = false ∧ ((c : Int) == 33) = false) := by
  simp only [smB, cpB, beq_iff_eq, beq_eq_false_iff_ne, ne_eq, decide_eq_true_eq, decide_eq_false_iff_not]
  omega

/-- the state behind the first i bytes; none: one of them cannot stand there. -/
def stp (s : ByteArray) : Nat → Option St
  | 0 => some ⟨0, 0, false, 0⟩
  | i + 1 => match stp s i with
    | none => none
    | some f => if (nxt f (bt s i)).2 then some (nxt f (bt s i)).1 else none

theorem stp_succ {s : ByteArray} {i : Nat} {f : St} (h : stp s i = some f) : stp s (i + 1) = if (nxt f (bt s i)).2 then some (nxt f (bt s i)).1 else none := by
  simp only [stp, h]

/-- where the first digit of the first cost above its bound stands, within the first i bytes; -1: nowhere. -/
def hgh (s : ByteArray) : Nat → Int
  | 0 => -1
  | i + 1 => match stp s (i + 1) with
    | none => hgh s i
    | some f => if 1000 < f.cost ∧ hgh s i < 0 then (i : Int) - f.n + 1 else hgh s i

theorem hgh_succ {s : ByteArray} {i : Nat} {f : St} (h : stp s (i + 1) = some f) : hgh s (i + 1) = if 1000 < f.cost ∧ hgh s i < 0 then (i : Int) - f.n + 1 else hgh s i := by
  simp only [hgh, h]

def Inv (f : St) : Prop := f.st ≤ 5 ∧ f.n ≤ 12 ∧ (f.st = 4 → f.cost + 1 ≤ 10 ^ f.n ∧ f.n ≤ 4) ∧ (f.st ≠ 4 → f.cost = 0) ∧ (f.st = 3 → f.n = 0)

theorem dgB_iff {c : Nat} : dgB c = true ↔ 48 ≤ c ∧ c ≤ 57 := by simp [dgB]
theorem smB_iff {c : Nat} : smB c = true ↔ 97 ≤ c ∧ c ≤ 122 := by simp [smB]
theorem cpB_iff {c : Nat} : cpB c = true ↔ 65 ≤ c ∧ c ≤ 90 := by simp [cpB]

theorem Inv.next {f : St} {c : Nat} (h : Inv f) (hok : (nxt f c).2 = true) : Inv (nxt f c).1 := by
  obtain ⟨st, n, sm, cost⟩ := f
  obtain ⟨h1, h2, h3, h4, h5⟩ := h
  simp only at h1 h2 h3 h4 h5
  unfold nxt at hok ⊢
  simp only at hok ⊢
  split
  · simp [Inv]
  · rename_i ha
    rw [if_neg ha] at hok
    split
    · rename_i hb
      subst hb
      have hc := h4 (by omega)
      subst hc
      simp only [if_true] at hok
      unfold lts at hok ⊢
      simp only at hok ⊢
      split
      · rename_i hd
        simp only [Bool.and_eq_true, decide_eq_true_eq] at hd
        exact ⟨by simp, by simp; omega, by simp, by simp, by simp⟩
      · rename_i hd
        rw [if_neg hd] at hok
        split
        · simp [Inv]
        · rename_i he
          rw [if_neg he] at hok
          split
          · simp [Inv]
          · rename_i hf
            rw [if_neg hf] at hok
            simp at hok
    · split
      · simp [Inv]
      · rename_i hb hc
        split
        · rename_i hd
          simp only [Bool.and_eq_true, decide_eq_true_eq] at hd
          obtain ⟨hd1, hd2⟩ := hd
          rw [dgB_iff] at hd1
          refine ⟨by simp, by simp; omega, fun _ => ⟨?_, by simp; omega⟩, by simp, by simp⟩
          simp only
          by_cases e4 : st = 4
          · have := (h3 e4).1
            rw [Nat.pow_succ]
            omega
          · have := h4 e4
            have := h5 (by omega)
            subst this
            simp
            omega
        · simp [Inv]

theorem stp_inv (s : ByteArray) : ∀ i f, stp s i = some f → Inv f
  | 0, f, h => by simp [stp] at h; subst h; simp [Inv]
  | i + 1, f, h => by
    cases e : stp s i with
    | none => simp [stp, e] at h
    | some g =>
      rw [stp_succ e] at h
      have hg := stp_inv s i g e
      split at h
      · rename_i hok
        simp at h
        subst h
        exact hg.next hok
      · simp at h

theorem Inv.cost_le {f : St} (h : Inv f) : f.cost ≤ 9999 := by
  obtain ⟨h1, h2, h3, h4, h5⟩ := h
  by_cases e : f.st = 4
  · obtain ⟨a, b⟩ := h3 e
    have h2 : 10 ^ f.n ≤ 10 ^ 4 := Nat.pow_le_pow_right (by omega) b
    have h3 : (10 : Nat) ^ 4 = 10000 := rfl
    omega
  · rw [h4 e]; omega

def acc (f : St) : Prop := f.st = 0 ∨ f.st = 4 ∨ f.st = 5

/-- what the reference's Check answers. -/
def RefRes (s : ByteArray) (e p : Int) : Prop :=
  (2000 < s.size ∧ e = 1 ∧ p = 0) ∨
  (s.size ≤ 2000 ∧ ∃ (i : Nat) (f : St), i < s.size ∧ stp s i = some f ∧ stp s (i + 1) = none ∧ e = 2 ∧ p = i) ∨
  (s.size ≤ 2000 ∧ ∃ f, stp s s.size = some f ∧ ¬ acc f ∧ e = 2 ∧ p = s.size) ∨
  (s.size ≤ 2000 ∧ ∃ f, stp s s.size = some f ∧ acc f ∧ 0 ≤ hgh s s.size ∧ e = 3 ∧ p = hgh s s.size) ∨
  (s.size ≤ 2000 ∧ ∃ f, stp s s.size = some f ∧ acc f ∧ hgh s s.size < 0 ∧ e = 0 ∧ p = 0)

theorem stp_none {s : ByteArray} {i j : Nat} (h : stp s i = none) (hij : i ≤ j) : stp s j = none := by
  induction hij with
  | refl => exact h
  | step _ ih => simp only [Nat.succ_eq_add_one, stp, ih]

theorem RefRes.unique {s : ByteArray} {e p e' p' : Int} (h : RefRes s e p) (h' : RefRes s e' p') : e = e' ∧ p = p' := by
  rcases h with ⟨a, rfl, rfl⟩ | ⟨a, i, f, hi, h1, h2, rfl, rfl⟩ | ⟨a, f, h1, h2, rfl, rfl⟩ | ⟨a, f, h1, h2, h3, rfl, rfl⟩ | ⟨a, f, h1, h2, h3, rfl, rfl⟩
  all_goals rcases h' with ⟨a', rfl, rfl⟩ | ⟨a', i', f', hi', h1', h2', rfl, rfl⟩ | ⟨a', f', h1', h2', rfl, rfl⟩ | ⟨a', f', h1', h2', h3', rfl, rfl⟩ | ⟨a', f', h1', h2', h3', rfl, rfl⟩
  all_goals first
    | omega
    | (have := stp_none h2 (show i + 1 ≤ s.size by omega); rw [this] at h1'; cases h1')
    | (have := stp_none h2' (show i' + 1 ≤ s.size by omega); rw [this] at h1; cases h1)
    | (rw [h1] at h1'; cases h1'; exact absurd h2' h2)
    | (rw [h1] at h1'; cases h1'; exact absurd h2 h2')
    | skip
  refine ⟨rfl, ?_⟩
  by_cases hlt : i < i'
  · rw [stp_none h2 (show i + 1 ≤ i' by omega)] at h1'; cases h1'
  · by_cases hlt' : i' < i
    · rw [stp_none h2' (show i' + 1 ≤ i by omega)] at h1; cases h1
    · omega

end Go.Proofs.YtlfpepehngkehabDoor
/-
  Plain mathematics: what is read of an image is the dictionary.
-/
namespace Go.Proofs.YtlfpepehngkehabDoor
set_option linter.unusedSimpArgs false
set_option linter.unusedVariables false

theorem bt_listK (s : ByteArray) (i : Nat) : bt s i = (s.toList.getD i 0).toNat := by unfold bt; rw [ByteArray.toList_eq]

theorem bt_mid {s : ByteArray} {A B C : List UInt8} (h : s.toList = A ++ (B ++ C)) (j : Nat) (hj : j < B.length) : bt s (A.length + j) = (B.getD j 0).toNat := by
  rw [bt_listK, h]
  simp only [List.getD_eq_getElem?_getD]
  rw [List.getElem?_append_right (by omega), Nat.add_sub_cancel_left, List.getElem?_append_left hj]

theorem toList_extract (s : ByteArray) (a b : Nat) : (s.extract a b).toList = (s.toList.drop a).take (b - a) := by
  rw [ByteArray.toList_eq, ByteArray.toList_eq, ByteArray.data_extract]
  simp [Array.toList_extract, List.extract]

theorem lcp_take : ∀ x y : List UInt8, x.take (lcpL x y) = y.take (lcpL x y)
  | [], y => by simp [lcpL]
  | _ :: _, [] => by simp [lcpL]
  | a :: x, b :: y => by
    simp only [lcpL]
    split
    · rename_i e
      subst e
      rw [List.take_succ_cons, List.take_succ_cons, lcp_take x y]
    · simp

theorem encTo_prefix (D : Dic) (i : Nat) : ∀ j, i ≤ j → ∃ R, encTo D j = encTo D i ++ R := by
  intro j h
  induction h with
  | refl => exact ⟨[], by simp⟩
  | @step m _ ih =>
    obtain ⟨R, hR⟩ := ih
    refine ⟨R ++ encE (prevW D m) (D.getD m (ByteArray.empty, 0)).1.toList (D.getD m (ByteArray.empty, 0)).2, ?_⟩
    simp only [Nat.succ_eq_add_one, encTo]
    rw [hR, List.append_assoc]

def Fits (D : Dic) : Prop := ∀ p ∈ D, p.1.size < 256 ∧ p.2 < 65536

theorem u8_of {n : Nat} (h : n < 256) : (UInt8.ofNat n).toNat = n := by simp; omega

theorem guessG_image {s : ByteArray} {D : Dic} (hD : Fits D) (hs : s.toList = imageL D) : ∀ (n i : Nat), D.length - i = n → i ≤ D.length → ∀ (f : Nat) (last : ByteArray), last.toList = prevW D i → s.size ≤ f + (encTo D i).length →
    guessG s f (encTo D i).length last = D.drop i := by
  intro n
  induction n with
  | zero =>
    intro i hn hi f last _ _
    obtain rfl : i = D.length := by omega
    rw [guessG_stop, List.drop_length]
    intro h
    have := toList_length s
    rw [hs] at this
    simp [imageL] at this
    omega
  | succ n ih =>
    intro i hn hi f last hl hf
    have hlt : i < D.length := by omega
    obtain ⟨hw, hc⟩ := hD D[i] (List.getElem_mem hlt)
    obtain ⟨R, hR⟩ := encTo_prefix D (i + 1) D.length hlt
    have hg : D.getD i (ByteArray.empty, 0) = D[i] := by rw [List.getD_eq_getElem?_getD, List.getElem?_eq_getElem hlt, Option.getD_some]
    have hen : encTo D (i + 1) = encTo D i ++ encE (prevW D i) D[i].1.toList D[i].2 := by simp only [encTo]; rw [hg]
    obtain ⟨k, hk⟩ : ∃ k, k = lcpL (prevW D i) D[i].1.toList := ⟨_, rfl⟩
    obtain ⟨hk1, hk2⟩ := lcpL_le (prevW D i) D[i].1.toList
    have htk := lcp_take (prevW D i) D[i].1.toList
    rw [← hk] at hk1 hk2 htk
    have hwl : D[i].1.toList.length = D[i].1.size := toList_length _
    have hee : encE (prevW D i) D[i].1.toList D[i].2 = UInt8.ofNat k :: UInt8.ofNat (D[i].1.size - k) :: (D[i].1.toList.drop k ++ twoL D[i].2) := by simp [encE, ← hk, hwl]
    obtain ⟨E, hE⟩ : ∃ E, E = encE (prevW D i) D[i].1.toList D[i].2 := ⟨_, rfl⟩
    rw [← hE] at hen hee
    have hEl : E.length = 4 + (D[i].1.size - k) := by rw [hee]; simp [twoL]; omega
    have hsl : s.toList = encTo D i ++ (E ++ (R ++ [sumL (encTo D D.length)])) := by rw [hs, imageL, hR, hen]; simp
    have hsz : s.size = (encTo D i).length + E.length + R.length + 1 := by rw [← toList_length, hsl]; simp; omega
    have e0 : bt s (encTo D i).length = k := by
      have := bt_mid hsl 0 (by omega)
      rw [Nat.add_zero] at this
      rw [this, hee]
      exact u8_of (by omega)
    have e1 : bt s ((encTo D i).length + 1) = D[i].1.size - k := by
      rw [bt_mid hsl 1 (by omega), hee]
      exact u8_of (by omega)
    have hdl : (D[i].1.toList.drop k).length = D[i].1.size - k := by rw [List.length_drop, hwl]
    have ex : (s.extract ((encTo D i).length + 2) ((encTo D i).length + 2 + (D[i].1.size - k))).toList = D[i].1.toList.drop k := by
      rw [toList_extract, hsl, List.drop_append, List.drop_of_length_le (by omega), hee]
      rw [show (encTo D i).length + 2 - (encTo D i).length = 2 by omega, show (encTo D i).length + 2 + (D[i].1.size - k) - ((encTo D i).length + 2) = (D[i].1.toList.drop k).length by omega]
      simp
    have e2 : bt s ((encTo D i).length + 2 + (D[i].1.size - k)) = D[i].2 % 256 := by
      rw [show (encTo D i).length + 2 + (D[i].1.size - k) = (encTo D i).length + (2 + (D[i].1.size - k)) by omega, bt_mid hsl _ (by omega), hee, List.getD_eq_getElem?_getD, show 2 + (D[i].1.size - k) = (D[i].1.size - k) + 1 + 1 by omega, List.getElem?_cons_succ, List.getElem?_cons_succ, List.getElem?_append_right (by omega), hdl]
      simp [twoL]
    have e3 : bt s ((encTo D i).length + 2 + (D[i].1.size - k) + 1) = D[i].2 / 256 := by
      rw [show (encTo D i).length + 2 + (D[i].1.size - k) + 1 = (encTo D i).length + (2 + (D[i].1.size - k) + 1) by omega, bt_mid hsl _ (by omega), hee, List.getD_eq_getElem?_getD, show 2 + (D[i].1.size - k) + 1 = (D[i].1.size - k + 1) + 1 + 1 by omega, List.getElem?_cons_succ, List.getElem?_cons_succ, List.getElem?_append_right (by omega), hdl]
      rw [show D[i].1.size - k + 1 - (D[i].1.size - k) = 1 by omega]
      simp [twoL]
      omega
    have hls : last.size = (prevW D i).length := by rw [← toList_length, hl]
    obtain ⟨f', hf', hst⟩ := guessG_step (s := s) (f := f) (k := (encTo D i).length) (last := last) hf (by omega) (by omega) (by omega)
    have hnx : last.extract 0 k ++ s.extract ((encTo D i).length + 2) ((encTo D i).length + 2 + (D[i].1.size - k)) = D[i].1 := by
      apply ba_ext
      rw [toList_append, ex, toList_extract, hl]
      simp only [List.drop_zero, Nat.sub_zero]
      rw [htk, List.take_append_drop]
    rw [hst, e0, e1, e2, e3, hnx]
    rw [e1] at hf'
    have hat : (encTo D i).length + 2 + (D[i].1.size - k) + 2 = (encTo D (i + 1)).length := by rw [hen, List.length_append]; omega
    rw [hat] at hf' ⊢
    rw [ih (i + 1) (by omega) hlt f' D[i].1 (by simp only [prevW]; rw [hg]) hf']
    rw [List.drop_eq_getElem_cons hlt]
    congr 1
    exact Prod.ext rfl (by simp only; omega)

theorem guess_image {s : ByteArray} {D : Dic} (hD : Fits D) (hs : s.toList = imageL D) : guessD s = D := by
  have := guessG_image hD hs D.length 0 (by omega) (by omega) s.size ByteArray.empty (by simp [prevW, ByteArray.toList_eq]) (by omega)
  have h4 : (encTo D 0).length = 4 := by simp [encTo, twoL]
  rw [h4] at this
  exact this

/-! words -/
/-- the first n bytes are those of a word, as far as they go. -/
def WordPre (x : ByteArray) (n : Nat) : Prop := 1 ≤ n ∧ n ≤ 12 ∧ n ≤ x.size ∧ (srt (bt x 0) = 1 ∨ srt (bt x 0) = 2) ∧ ∀ j, 0 < j → j < n → srt (bt x j) = srt (bt x 0) ∨ srt (bt x j) = 4

def IsWord (x : ByteArray) : Prop := WordPre x x.size

theorem isWord_at {x : ByteArray} : IsWord x ↔ 1 ≤ x.size ∧ WordAt x 0 x.size := by
  constructor
  · rintro ⟨h1, h2, h3, h4, h5⟩
    exact ⟨h1, .inr ⟨h1, h2, by omega, h4, (fun j a b => h5 j a (by omega)), .inl (by omega)⟩⟩
  · rintro ⟨h1, h⟩
    rcases h with ⟨h, _⟩ | ⟨a, b, c, d, e, _⟩
    · omega
    · exact ⟨a, b, by omega, d, fun j u v => e j u (by omega)⟩

/-- the state of the reference behind the first n bytes of a word. -/
def wordSt (x : ByteArray) (n : Nat) : St := if n = 0 then ⟨0, 0, false, 0⟩ else ⟨2, n, smB (bt x 0), 0⟩

theorem wordSt_step {x : ByteArray} {n : Nat} (hn : n < x.size) (h : n = 0 ∨ WordPre x n) :
    ((nxt (wordSt x n) (bt x n)).2 = true ∧ (nxt (wordSt x n) (bt x n)).1.st = 2 ↔ WordPre x (n + 1)) ∧ (WordPre x (n + 1) → (nxt (wordSt x n) (bt x n)).1 = wordSt x (n + 1)) := by
  rcases h with rfl | h
  · simp only [wordSt, if_true, nxt]
    have e : WordPre x (0 + 1) ↔ (smB (bt x 0) || cpB (bt x 0)) = true := by
      rw [Bool.or_eq_true, smB_iff, cpB_iff, ← srt_1, ← srt_2]
      constructor
      · rintro ⟨_, _, _, h, _⟩; exact h
      · intro h; exact ⟨by omega, by omega, by omega, h, fun j a b => by omega⟩
    rw [e]
    simp
  · have hn0 : n ≠ 0 := by have := h.1; omega
    simp only [wordSt, hn0, if_false]
    obtain ⟨h1, h2, h3, h4, h5⟩ := h
    have e : WordPre x (n + 1) ↔ n < 12 ∧ (srt (bt x n) = srt (bt x 0) ∨ srt (bt x n) = 4) := by
      constructor
      · rintro ⟨_, a, _, _, b⟩
        exact ⟨by omega, b n (by omega) (by omega)⟩
      · rintro ⟨a, b⟩
        refine ⟨by omega, by omega, by omega, h4, fun j u v => ?_⟩
        by_cases ej : j = n
        · subst ej; exact b
        · exact h5 j u (by omega)
    rw [e]
    have e2 : ((((bt x n : Nat) : Int) == 126 || (smB (bt x 0) && smB (bt x n))) || (!smB (bt x 0) && cpB (bt x n))) = true ↔ srt (bt x n) = srt (bt x 0) ∨ srt (bt x n) = 4 := by
      simp only [Bool.or_eq_true, Bool.and_eq_true, beq_iff_eq, Bool.not_eq_true', smB_iff, cpB_iff, srt_4]
      rw [show (smB (bt x 0) = false) ↔ ¬ (97 ≤ bt x 0 ∧ bt x 0 ≤ 122) from by rw [← smB_iff]; simp]
      rcases h4 with h4 | h4
      · rw [h4, srt_1]
        rw [srt_1] at h4
        omega
      · rw [h4, srt_2]
        rw [srt_2] at h4
        omega
    have hnx : nxt ⟨2, n, smB (bt x 0), 0⟩ (bt x n) = lts ⟨2, n, smB (bt x 0), 0⟩ (bt x n) := by simp [nxt]
    rw [hnx]
    unfold lts
    simp only
    have h2n : n + 1 ≠ 0 := by omega
    by_cases hc : ((((bt x n : Nat) : Int) == 126 || (smB (bt x 0) && smB (bt x n))) || (!smB (bt x 0) && cpB (bt x n))) = true
    · by_cases h12 : n < 12
      · simp [hc, h12, ← e2, h2n]
      · simp only [h12, decide_false, Bool.and_false, Bool.false_eq_true, if_false, false_and, iff_false, false_implies, and_true]
        split
        · simp
        · split
          · simp
          · simp
    · simp only [← e2, hc, and_false, iff_false, false_implies, and_true]
      rw [Bool.not_eq_true] at hc
      simp only [hc, Bool.false_and, Bool.false_eq_true, if_false]
      split
      · simp
      · split
        · simp
        · simp

/-! dictionaries that may be -/
def GoodDic (D : Dic) : Prop := D.length ≤ 150 ∧ Srt D ∧ ∀ p ∈ D, IsWord p.1 ∧ p.2 ≤ 1000

theorem GoodDic.fits {D : Dic} (h : GoodDic D) : Fits D := fun p hp => by
  obtain ⟨h1, h2⟩ := h.2.2 p hp
  have := h1.2.1
  omega

/-- what both sides' Load must answer. -/
def LoadYes (s : ByteArray) (D : Dic) : Prop := GoodDic D ∧ imageL D = s.toList
def LoadNo (s : ByteArray) : Prop := ∀ D, GoodDic D → imageL D ≠ s.toList

theorem LoadYes.guess {s : ByteArray} {D : Dic} (h : LoadYes s D) : D = guessD s := (guess_image h.1.fits h.2.symm).symm
theorem LoadYes.unique {s : ByteArray} {D D' : Dic} (h : LoadYes s D) (h' : LoadYes s D') : D = D' := h.guess.trans h'.guess.symm

theorem srt_of_rises {D : Dic} (h : ∀ i (h : i + 1 < D.length), wl D[i].1 D[i + 1].1 = true) : Srt D := by
  induction D with
  | nil => exact List.Pairwise.nil
  | cons p D ih =>
    have hD : Srt D := ih fun i hi => by have := h (i + 1) (by simpa using hi); simpa using this
    refine List.pairwise_cons.2 ⟨fun q hq => ?_, hD⟩
    cases D with
    | nil => cases hq
    | cons r D =>
      have h0 : wl p.1 r.1 = true := by have := h 0 (by simp); simpa using this
      rcases List.mem_cons.1 hq with rfl | hq
      · exact h0
      · exact wl_trans h0 ((List.pairwise_cons.1 hD).1 q hq)

theorem rises_of_srt {D : Dic} (h : Srt D) (i : Nat) (hi : i + 1 < D.length) : wl D[i].1 D[i + 1].1 = true := List.pairwise_iff_getElem.1 h i (i + 1) (by omega) hi (by omega)

end Go.Proofs.YtlfpepehngkehabDoor
/-
  Plain mathematics: words out of raw numbers.
-/
namespace Go.Proofs.YtlfpepehngkehabDoor
set_option linter.unusedSimpArgs false
set_option linter.unusedVariables false

/-- which of n things the raw number c speaks of. -/
def pk (c : Int) (n : Nat) : Nat := ((if c < 0 then -(c + 1) else c) % (n : Int)).toNat

theorem pk_lt (c : Int) {n : Nat} (h : 0 < n) : pk c n < n := by
  unfold pk
  have h1 := Int.emod_nonneg (if c < 0 then -(c + 1) else c) (show (n : Int) ≠ 0 by omega)
  have h2 := Int.emod_lt_of_pos (if c < 0 then -(c + 1) else c) (show 0 < (n : Int) by omega)
  omega

theorem pk_cast (c : Int) {n : Nat} (h : 0 < n) : ((pk c n : Nat) : Int) = (if c < 0 then -(c + 1) else c) % (n : Int) := by
  unfold pk
  have h1 := Int.emod_nonneg (if c < 0 then -(c + 1) else c) (show (n : Int) ≠ 0 by omega)
  omega

/-- a letter of a raw number, or a mark. -/
def ltr (v base : Nat) (first : Bool) : Nat := if v % 7 = 6 ∧ first = false then 126 else base + v % 7 % 3

def wbase (v : Nat) : Nat := if v % 2 = 1 then 65 else 97
def wlen (v : Nat) : Nat := 1 + v / 2 % 4
def wlet (v i : Nat) : Nat := ltr (v / 8 / 7 ^ i) (wbase v) (decide (i = 0))
def wbytes (v : Nat) : Nat → List UInt8
  | 0 => []
  | i + 1 => wbytes v i ++ [UInt8.ofNat (wlet v i)]
def wordV (v : Nat) : ByteArray := ⟨(wbytes v (wlen v)).toArray⟩
def wordOf (c : Int) : ByteArray := wordV (pk c 1099511627776)

theorem wbytes_length (v : Nat) : ∀ i, (wbytes v i).length = i
  | 0 => rfl
  | i + 1 => by simp [wbytes, wbytes_length v i]

theorem ltr_lt (v base : Nat) (first : Bool) (h : base ≤ 200) : ltr v base first < 256 := by unfold ltr; split <;> omega

theorem wbase_le (v : Nat) : wbase v ≤ 200 := by unfold wbase; split <;> omega

theorem wlet_lt (v i : Nat) : wlet v i < 256 := ltr_lt _ _ _ (wbase_le v)

theorem wbytes_get (v : Nat) : ∀ (n i : Nat), i < n → (wbytes v n)[i]? = some (UInt8.ofNat (wlet v i))
  | 0, i, h => by omega
  | n + 1, i, h => by
    simp only [wbytes]
    by_cases e : i = n
    · subst e
      rw [List.getElem?_append_right (by rw [wbytes_length]; omega), wbytes_length]
      simp
    · rw [List.getElem?_append_left (by rw [wbytes_length]; omega), wbytes_get v n i (by omega)]

theorem wordV_size (v : Nat) : (wordV v).size = wlen v := by
  have := wbytes_length v (wlen v)
  simp only [wordV, ByteArray.size, List.size_toArray]
  exact this

theorem wordV_bt (v i : Nat) (h : i < wlen v) : bt (wordV v) i = wlet v i := by
  unfold bt wordV
  rw [List.getD_eq_getElem?_getD]
  show ((wbytes v (wlen v))[i]?.getD 0).toNat = _
  rw [wbytes_get v _ i h]
  exact u8_of (wlet_lt v i)

theorem wlen_le (v : Nat) : 1 ≤ wlen v ∧ wlen v ≤ 4 := by unfold wlen; omega

theorem wordV_is (v : Nat) : IsWord (wordV v) := by
  have hl := wlen_le v
  have hs := wordV_size v
  have h0 : wlet v 0 = wbase v + v / 8 % 7 % 3 := by simp [wlet, ltr]
  have hk : ∀ j, j < wlen v → srt (bt (wordV v) j) = srt (bt (wordV v) 0) ∨ srt (bt (wordV v) j) = 4 := fun j hj => by
    rw [wordV_bt v j hj, wordV_bt v 0 (by omega), h0]
    unfold wlet ltr
    split
    · exact .inr (srt_4.2 rfl)
    · left
      unfold wbase
      split
      · rw [srt_2.2 (by omega), srt_2.2 (by omega)]
      · rw [srt_1.2 (by omega), srt_1.2 (by omega)]
  refine ⟨by omega, by omega, Nat.le_refl _, ?_, fun j _ h => hk j (by omega)⟩
  rw [wordV_bt v 0 (by omega), h0]
  unfold wbase
  split
  · exact .inr (srt_2.2 (by omega))
  · exact .inl (srt_1.2 (by omega))

end Go.Proofs.YtlfpepehngkehabDoor
/-
  Plain mathematics: the keep statements' table.
-/
namespace Go.Proofs.YtlfpepehngkehabDoor
set_option linter.unusedSimpArgs false
set_option linter.unusedVariables false

/-- words and their costs; -1: it is out. -/
abbrev Tab := List (ByteArray × Int)

def tput : Tab → ByteArray → Int → Tab
  | [], x, c => [(x, c)]
  | p :: T, x, c => if p.1 = x then (p.1, c) :: T else p :: tput T x c

def tcost : Tab → ByteArray → Int
  | [], _ => -1
  | p :: T, x => if p.1 = x then p.2 else tcost T x

theorem tput_found : ∀ {T : Tab} {x : ByteArray} {c : Int} {i : Nat} (hi : i < T.length), T[i].1 = x → (∀ j (h : j < T.length), j < i → T[j].1 ≠ x) → tput T x c = T.set i (T[i].1, c)
  | [], _, _, i, hi, _, _ => by simp at hi
  | p :: T, x, c, 0, _, h1, _ => by
    have h1 : p.1 = x := h1
    simp [tput, h1]
  | p :: T, x, c, i + 1, hi, h1, h2 => by
    have h0 : p.1 ≠ x := h2 0 (by simp) (by omega)
    simp only [tput, if_neg h0, List.set_cons_succ, List.getElem_cons_succ]
    rw [tput_found (i := i) (by simpa using hi) (by simpa using h1) (fun j hj hji => by have := h2 (j + 1) (by simpa using hj) (by omega); simpa using this)]

theorem tput_none : ∀ {T : Tab} {x : ByteArray} {c : Int}, (∀ j (h : j < T.length), T[j].1 ≠ x) → tput T x c = T ++ [(x, c)]
  | [], _, _, _ => rfl
  | p :: T, x, c, h => by
    have h0 : p.1 ≠ x := h 0 (by simp)
    simp only [tput, if_neg h0, List.cons_append]
    rw [tput_none fun j hj => by have := h (j + 1) (by simpa using hj); simpa using this]

theorem tcost_found : ∀ {T : Tab} {x : ByteArray} {i : Nat} (hi : i < T.length), T[i].1 = x → (∀ j (h : j < T.length), j < i → T[j].1 ≠ x) → tcost T x = T[i].2
  | [], _, i, hi, _, _ => by simp at hi
  | p :: T, x, 0, _, h1, _ => by
    have h1 : p.1 = x := h1
    simp [tcost, h1]
  | p :: T, x, i + 1, hi, h1, h2 => by
    have h0 : p.1 ≠ x := h2 0 (by simp) (by omega)
    simp only [tcost, if_neg h0, List.getElem_cons_succ]
    rw [tcost_found (i := i) (by simpa using hi) (by simpa using h1) (fun j hj hji => by have := h2 (j + 1) (by simpa using hj) (by omega); simpa using this)]

theorem tcost_none : ∀ {T : Tab} {x : ByteArray}, (∀ j (h : j < T.length), T[j].1 ≠ x) → tcost T x = -1
  | [], _, _ => rfl
  | p :: T, x, h => by
    have h0 : p.1 ≠ x := h 0 (by simp)
    simp only [tcost, if_neg h0]
    exact tcost_none fun j hj => by have := h (j + 1) (by simpa using hj); simpa using this

theorem tcost_put (T : Tab) (x y : ByteArray) (c : Int) : tcost (tput T x c) y = if y = x then c else tcost T y := by
  induction T with
  | nil =>
    simp only [tput, tcost]
    by_cases e : x = y
    · subst e; simp
    · rw [if_neg e, if_neg (fun h => e h.symm)]
  | cons p T ih =>
    simp only [tput]
    by_cases hp : p.1 = x
    · rw [if_pos hp]
      simp only [tcost]
      by_cases e : p.1 = y
      · rw [if_pos e, if_pos (by rw [← e]; exact hp)]
      · rw [if_neg e, if_neg (fun h => e (by rw [h]; exact hp)), if_neg e]
    · rw [if_neg hp]
      simp only [tcost]
      by_cases e : p.1 = y
      · rw [if_pos e, if_neg (fun h => hp (by rw [e]; exact h)), if_pos e]
      · rw [if_neg e, ih, if_neg e]

theorem tput_length (T : Tab) (x : ByteArray) (c : Int) : (tput T x c).length ≤ T.length + 1 := by
  induction T with
  | nil => simp [tput]
  | cons p T ih =>
    simp only [tput]
    split
    · simp
    · simp; omega

theorem tput_mem {T : Tab} {x : ByteArray} {c : Int} {p : ByteArray × Int} (h : p ∈ tput T x c) : p ∈ T ∨ p = (x, c) := by
  induction T with
  | nil => simp [tput] at h; exact .inr h
  | cons q T ih =>
    simp only [tput] at h
    split at h
    · rename_i e
      rcases List.mem_cons.1 h with rfl | h
      · exact .inr (by rw [e])
      · exact .inl (List.mem_cons_of_mem _ h)
    · rcases List.mem_cons.1 h with rfl | h
      · exact .inl List.mem_cons_self
      · rcases ih h with h | h
        · exact .inl (List.mem_cons_of_mem _ h)
        · exact .inr h

/-- no word stands twice in a table. -/
def TabOk (T : Tab) : Prop := (T.map (·.1)).Nodup

theorem tput_ok {T : Tab} {x : ByteArray} {c : Int} (h : TabOk T) : TabOk (tput T x c) := by
  induction T with
  | nil => simp [TabOk, tput]
  | cons p T ih =>
    have hT : TabOk T := (List.nodup_cons.1 h).2
    have hn : p.1 ∉ T.map (·.1) := (List.nodup_cons.1 h).1
    simp only [tput]
    split
    · exact List.nodup_cons.2 ⟨hn, hT⟩
    · rename_i hp
      refine List.nodup_cons.2 ⟨fun hm => ?_, ih hT⟩
      obtain ⟨q, hq, e⟩ := List.mem_map.1 hm
      rcases tput_mem hq with h | h
      · exact hn (List.mem_map.2 ⟨q, h, e⟩)
      · rw [h] at e; exact hp e.symm

/-- the table holds what the entries say. -/
def TabRep (T : Tab) (E : List Ent) : Prop := TabOk T ∧ ∀ w, tcost T w = match eff E w with | some c => (c : Int) | none => -1

theorem TabRep.nil : TabRep [] [] := ⟨by simp [TabOk], fun w => by simp [tcost, eff]⟩

theorem TabRep.put {T : Tab} {E : List Ent} {x : Ent} (h : TabRep T E) : TabRep (tput T x.word (if x.inn = true then (x.cost : Int) else -1)) (E ++ [x]) := by
  refine ⟨tput_ok h.1, fun w => ?_⟩
  rw [tcost_put, eff_snoc]
  unfold stepE
  by_cases e : x.word = w
  · rw [if_pos e, if_pos e.symm]
    by_cases hi : x.inn = true
    · rw [if_pos hi, if_pos hi]
    · rw [if_neg hi, if_neg hi]
  · rw [if_neg e, if_neg (fun h => e h.symm)]
    exact h.2 w

end Go.Proofs.YtlfpepehngkehabDoor
/-
  Plain mathematics: the automaton runs over entries; what the program answers is what the reference answers.
-/
namespace Go.Proofs.YtlfpepehngkehabDoor
set_option linter.unusedSimpArgs false
set_option linter.unusedVariables false

def Start (f : St) : Prop := f.n = 0 ∧ f.sm = false ∧ f.cost = 0 ∧ (f.st = 0 ∨ f.st = 1)

theorem stp_ok {s : ByteArray} {i : Nat} {f g : St} (h : stp s i = some f) (hn : nxt f (bt s i) = (g, true)) : stp s (i + 1) = some g := by
  rw [stp_succ h, hn]; simp
theorem stp_no {s : ByteArray} {i : Nat} {f : St} (h : stp s i = some f) (hn : (nxt f (bt s i)).2 = false) : stp s (i + 1) = none := by
  rw [stp_succ h, hn]; simp

theorem nxt_start {f : St} {c : Nat} (h : Start f) : nxt f c = (⟨2, 1, smB c, 0⟩, smB c || cpB c) := by
  obtain ⟨_, _, _, h⟩ := h
  unfold nxt
  rw [if_pos h]

theorem sm_of {c : Nat} (h : srt c = 1 ∨ srt c = 2) : (smB c || cpB c) = true := by
  rcases h with h | h
  · rw [srt_1] at h; simp [smB, h]
  · rw [srt_2] at h; simp [cpB, h]

theorem sm_no {c : Nat} (h : srt c ≠ 1 ∧ srt c ≠ 2) : (smB c || cpB c) = false := by
  have h1 : ¬ (97 ≤ c ∧ c ≤ 122) := fun e => h.1 (srt_1.2 e)
  have h2 : ¬ (65 ≤ c ∧ c ≤ 90) := fun e => h.2 (srt_2.2 e)
  simp [smB, cpB]
  omega

/-- does c go on with a word that began with b? -/
theorem fits_iff {b c : Nat} (hb : srt b = 1 ∨ srt b = 2) : ((((c : Int) == 126 || (smB b && smB c)) || (!(smB b) && cpB c)) = true) ↔ (srt c = srt b ∨ srt c = 4) := by
  rcases hb with hb | hb
  · have h1 := srt_1.1 hb
    have h2 : smB b = true := smB_iff.2 h1
    rw [hb, h2]
    simp [srt_1, srt_4, smB_iff]
    omega
  · have h1 := srt_2.1 hb
    have h2 : smB b = false := by simp [smB]; omega
    rw [hb, h2]
    simp [srt_2, srt_4, cpB_iff]
    omega

theorem nxt_word {n b c : Nat} : nxt ⟨2, n, smB b, 0⟩ c = lts ⟨2, n, smB b, 0⟩ c := by simp [nxt]

theorem lts_fit {n b c : Nat} (hb : srt b = 1 ∨ srt b = 2) (hc : srt c = srt b ∨ srt c = 4) (hn : n < 12) : lts ⟨2, n, smB b, 0⟩ c = (⟨2, n + 1, smB b, 0⟩, true) := by
  have := (fits_iff (b := b) (c := c) hb).2 hc
  unfold lts
  rw [if_pos (by simp only [Bool.and_eq_true, decide_eq_true_eq]; exact ⟨this, hn⟩)]

theorem lts_unfit {n b c : Nat} (hb : srt b = 1 ∨ srt b = 2) (h : n = 12 ∨ ¬ (srt c = srt b ∨ srt c = 4)) :
    lts ⟨2, n, smB b, 0⟩ c = if (c : Int) == 61 then (⟨3, 0, false, 0⟩, true) else if (c : Int) == 33 then (⟨5, 0, false, 0⟩, true) else (⟨2, n, smB b, 0⟩, false) := by
  unfold lts
  rw [if_neg]
  simp only [Bool.and_eq_true, decide_eq_true_eq]
  rintro ⟨h1, h2⟩
  rcases h with h | h
  · omega
  · exact h ((fits_iff (b := b) (c := c) hb).1 h1)

theorem word_run {s : ByteArray} {k n : Nat} {f : St} (h : stp s k = some f) (hf : Start f) (hw : WordAt s k n) : ∀ j, 1 ≤ j → j ≤ n → stp s (k + j) = some ⟨2, j, smB (bt s k), 0⟩ ∧ hgh s (k + j) = hgh s k := by
  intro j h1 hj
  rcases hw with ⟨rfl, _⟩ | ⟨_, h12, hs, hl, hall, _⟩
  · omega
  · induction j with
    | zero => omega
    | succ j ih =>
      by_cases hj0 : j = 0
      · subst hj0
        have e : nxt f (bt s k) = (⟨2, 1, smB (bt s k), 0⟩, true) := by rw [nxt_start hf, sm_of hl]
        have hs1 := stp_ok h e
        refine ⟨hs1, ?_⟩
        show hgh s (k + 1) = _
        rw [hgh_succ hs1]
        simp
      · obtain ⟨i1, i2⟩ := ih (by omega) (by omega)
        have e : nxt ⟨2, j, smB (bt s k), 0⟩ (bt s (k + j)) = (⟨2, j + 1, smB (bt s k), 0⟩, true) := by
          rw [nxt_word, lts_fit hl (hall (k + j) (by omega) (by omega)) (by omega)]
        have hs1 := stp_ok i1 e
        refine ⟨hs1, ?_⟩
        show hgh s (k + j + 1) = _
        rw [hgh_succ hs1]
        simp [i2]

theorem digits_run {s : ByteArray} {k m : Nat} (h : stp s k = some ⟨3, 0, false, 0⟩) (hd : DigitsAt s k m) : ∀ j, j ≤ m → stp s (k + j) = some ⟨if j = 0 then 3 else 4, j, false, num s k j⟩ ∧ hgh s (k + j) = if hgh s k < 0 ∧ 1000 < num s k j then (k : Int) else hgh s k := by
  obtain ⟨h4, hs, hall, _⟩ := hd
  intro j hj
  induction j with
  | zero => simp [h, num]
  | succ j ih =>
    obtain ⟨i1, i2⟩ := ih (by omega)
    have hdg := srt_3.1 (hall (k + j) (by omega) (by omega))
    have hd2 : dgB (bt s (k + j)) = true := dgB_iff.2 hdg
    have e : nxt ⟨if j = 0 then 3 else 4, j, false, num s k j⟩ (bt s (k + j)) = (⟨4, j + 1, false, num s k (j + 1)⟩, true) := by
      unfold nxt
      have hst : (if j = 0 then 3 else 4) = 3 ∨ (if j = 0 then 3 else 4) = 4 := by split <;> simp
      rw [if_neg (by simp only; omega), if_neg (by simp only; omega), if_neg (by simp only; omega), if_pos (by simp only [hd2, Bool.true_and, decide_eq_true_eq]; omega)]
      simp [num]
    have hs1 := stp_ok i1 e
    refine ⟨by rw [if_neg (by omega)]; exact hs1, ?_⟩
    show hgh s (k + j + 1) = _
    rw [hgh_succ hs1, i2]
    have hmono : num s k j ≤ num s k (j + 1) := by simp only [num]; omega
    simp only
    by_cases a : hgh s k < 0
    · by_cases b : 1000 < num s k j
      · have c : 1000 < num s k (j + 1) := by omega
        simp only [a, b, c, and_self, if_true]
        rw [if_neg (by omega)]
      · simp only [a, b, and_false, if_false, true_and, and_true]
        split <;> omega
    · simp [a]

theorem nxt_out {c : Nat} : nxt ⟨5, 0, false, 0⟩ c = (⟨1, 0, false, 0⟩, (c : Int) == 44) := by simp [nxt]
theorem nxt_digits {m v c : Nat} (h : m = 4 ∨ srt c ≠ 3) : nxt ⟨4, m, false, v⟩ c = (⟨1, 0, false, 0⟩, (c : Int) == 44) := by
  unfold nxt
  rw [if_neg (by simp), if_neg (by simp), if_neg (by simp), if_neg]
  · simp
  · simp only [Bool.and_eq_true, decide_eq_true_eq]
    rintro ⟨h1, h2⟩
    rw [dgB_iff] at h1
    rcases h with h | h
    · omega
    · exact h (srt_3.2 h1)

theorem srt33 : srt 33 = 0 := rfl
theorem srt61 : srt 61 = 0 := rfl

/-- behind a word. -/
theorem behind_word {s : ByteArray} {k n : Nat} {f : St} (h : stp s k = some f) (hf : Start f) (hw : WordAt s k n) (hn : 1 ≤ n) (hlt : k + n < s.size) :
    nxt ⟨2, n, smB (bt s k), 0⟩ (bt s (k + n)) = if (bt s (k + n) : Int) == 61 then (⟨3, 0, false, 0⟩, true) else if (bt s (k + n) : Int) == 33 then (⟨5, 0, false, 0⟩, true) else (⟨2, n, smB (bt s k), 0⟩, false) := by
  rcases hw with ⟨rfl, _⟩ | ⟨_, h12, hs, hl, hall, hmax⟩
  · omega
  · rw [nxt_word, lts_unfit hl]
    rcases hmax with a | a | a
    · omega
    · exact .inl a
    · exact .inr (fun e => by rcases e with e | e; exact a.1 e; exact a.2 e)

theorem good_run {s : ByteArray} {k p : Nat} {x : Ent} {f : St} (h : stp s k = some f) (hf : Start f) (hg : GoodEntry s k x p) :
    ∃ g, stp s p = some g ∧ acc g ∧ (p < s.size → nxt g (bt s p) = (⟨1, 0, false, 0⟩, (bt s p : Int) == 44)) ∧ hgh s p = if hgh s k < 0 ∧ 1000 < x.cost then (x.dig : Int) else hgh s k := by
  obtain ⟨n, hw, h1, hlt, _, hx⟩ := hg
  have hb := behind_word h hf hw h1 hlt
  obtain ⟨r1, r2⟩ := word_run h hf hw n h1 (Nat.le_refl _)
  rcases hx with ⟨h33, _, hc, hd, rfl⟩ | ⟨h61, m, hm, hdg, _, hc, hd, rfl⟩
  · have e : nxt ⟨2, n, smB (bt s k), 0⟩ (bt s (k + n)) = (⟨5, 0, false, 0⟩, true) := by rw [hb, h33]; simp
    have hs1 := stp_ok r1 e
    refine ⟨_, hs1, .inr (.inr rfl), fun _ => nxt_out, ?_⟩
    rw [hgh_succ hs1, hc, r2]
    simp
  · have e : nxt ⟨2, n, smB (bt s k), 0⟩ (bt s (k + n)) = (⟨3, 0, false, 0⟩, true) := by rw [hb, h61]; simp
    have hs1 := stp_ok r1 e
    have hh : hgh s (k + n + 1) = hgh s k := by rw [hgh_succ hs1, r2]; simp
    obtain ⟨d1, d2⟩ := digits_run hs1 hdg m (Nat.le_refl _)
    rw [if_neg (by omega)] at d1
    refine ⟨_, d1, .inr (.inl rfl), fun hp => ?_, ?_⟩
    · apply nxt_digits
      obtain ⟨_, _, _, hmax⟩ := hdg
      rcases hmax with a | a | a
      · omega
      · exact .inl a
      · exact .inr a
    · rw [d2, hh, hc, hd]

def Stuck (s : ByteArray) (p : Nat) : Prop := (p < s.size ∧ ∃ f, stp s p = some f ∧ stp s (p + 1) = none) ∨ (p = s.size ∧ ∃ f, stp s s.size = some f ∧ ¬ acc f)

theorem bad_run {s : ByteArray} {k p : Nat} {f : St} (h : stp s k = some f) (hf : Start f) (hk : k < s.size) (hg : BadEntry s k p) : Stuck s p := by
  obtain ⟨n, hw, hx⟩ := hg
  by_cases hn : n = 0
  · subst hn
    rcases hx with ⟨_, rfl⟩ | ⟨a, _⟩ | ⟨a, _⟩
    · rcases hw with ⟨_, hw⟩ | ⟨a, _⟩
      · rcases hw with a | a
        · omega
        · exact .inl ⟨hk, f, h, stp_no h (by rw [nxt_start hf]; exact sm_no a)⟩
      · omega
    · omega
    · omega
  · obtain ⟨r1, r2⟩ := word_run h hf hw n (by omega) (Nat.le_refl _)
    rcases hx with ⟨a, rfl⟩ | ⟨_, hlt, h33, h61, rfl⟩ | ⟨_, hlt, h61, hdg, rfl⟩
    · rcases a with a | a
      · omega
      · rw [a] at r1
        exact .inr ⟨a, _, r1, fun e => by rcases e with e | e | e <;> simp at e⟩
    · have hb := behind_word h hf hw (by omega) hlt
      have t61 : ((bt s (k + n) : Int) == 61) = false := beq_eq_false_iff_ne.2 (by omega)
      have t33 : ((bt s (k + n) : Int) == 33) = false := beq_eq_false_iff_ne.2 (by omega)
      exact .inl ⟨hlt, _, r1, stp_no r1 (by rw [hb, t61, t33]; rfl)⟩
    · have hb := behind_word h hf hw (by omega) hlt
      have e : nxt ⟨2, n, smB (bt s k), 0⟩ (bt s (k + n)) = (⟨3, 0, false, 0⟩, true) := by rw [hb, h61]; simp
      have hs1 := stp_ok r1 e
      by_cases hl : k + n + 1 < s.size
      · refine .inl ⟨hl, _, hs1, stp_no hs1 ?_⟩
        obtain ⟨_, _, _, hmax⟩ := hdg
        have hnd : dgB (bt s (k + n + 1)) = false := by
          rcases hmax with a | a | a
          · omega
          · omega
          · cases e : dgB (bt s (k + n + 1)) with
            | false => rfl
            | true => exact absurd (srt_3.2 (dgB_iff.1 e)) a
        simp [nxt, hnd]
      · have hl' : k + n + 1 = s.size := by omega
        rw [hl'] at hs1
        exact .inr ⟨hl', _, hs1, fun e => by rcases e with e | e | e <;> simp at e⟩

/-- the first cost above its bound among entries. -/
def hghE : Int → List Ent → Int
  | h, [] => h
  | h, x :: E => hghE (if h < 0 ∧ 1000 < x.cost then (x.dig : Int) else h) E

theorem chain_run {s : ByteArray} {q : Nat} : ∀ {E : List Ent} {k : Nat} {f : St}, stp s k = some f → Start f → Chain s k E q → ∃ g, stp s q = some g ∧ Start g ∧ hgh s q = hghE (hgh s k) E ∧ (E = [] → g = f) ∧ (E ≠ [] → g.st = 1)
  | [], k, f, h, hf, hc => by cases hc; exact ⟨f, h, hf, rfl, fun _ => rfl, fun a => absurd rfl a⟩
  | x :: E, k, f, h, hf, hc => by
    obtain ⟨p, hg, hp, h44, hc⟩ := hc
    obtain ⟨g, h1, h2, h3, h4⟩ := good_run h hf hg
    have e : nxt g (bt s p) = (⟨1, 0, false, 0⟩, true) := by rw [h3 hp, h44]; rfl
    have hs1 := stp_ok h1 e
    obtain ⟨g', i1, i2, i3, i4, i5⟩ := chain_run hs1 ⟨rfl, rfl, rfl, .inr rfl⟩ hc
    refine ⟨g', i1, i2, ?_, (fun a => by cases a), fun _ => ?_⟩
    · rw [i3, hgh_succ hs1, h4]
      simp [hghE]
    · by_cases hE : E = []
      · rw [i4 hE]
      · exact i5 hE

theorem hghE_append (h : Int) (E : List Ent) (x : Ent) : hghE h (E ++ [x]) = if hghE h E < 0 ∧ 1000 < x.cost then (x.dig : Int) else hghE h E := by
  induction E generalizing h with
  | nil => rfl
  | cons y E ih => exact ih _

theorem hghE_pos (h : Int) (hh : 0 ≤ h) (E : List Ent) : hghE h E = h := by
  induction E with
  | nil => rfl
  | cons x E ih => simp only [hghE]; rw [if_neg (by omega), ih]

theorem hghE_none (E : List Ent) (h : ∀ j (hj : j < E.length), E[j].cost ≤ 1000) : hghE (-1) E = -1 := by
  induction E with
  | nil => rfl
  | cons x E ih =>
    simp only [hghE]
    have h0 := h 0 (by simp)
    simp at h0
    rw [if_neg (by omega)]
    exact ih fun j hj => by have := h (j + 1) (by simp; omega); simpa using this

theorem hghE_first (E : List Ent) (k : Nat) (hk : k < E.length) (hc : 1000 < E[k].cost) (h : ∀ j (hj : j < k), E[j].cost ≤ 1000) : hghE (-1) E = E[k].dig := by
  induction E generalizing k with
  | nil => simp at hk
  | cons x E ih =>
    simp only [hghE]
    cases k with
    | zero => simp at hc ⊢; rw [if_pos hc, hghE_pos _ (by omega)]
    | succ k =>
      have h0 := h 0 (by omega)
      simp at h0
      rw [if_neg (by omega)]
      have := ih k (by simpa using hk) (by simpa using hc) (fun j hj => by have := h (j + 1) (by omega); simpa using this)
      simpa using this

theorem start0 : Start ⟨0, 0, false, 0⟩ := ⟨rfl, rfl, rfl, .inl rfl⟩

theorem stuck_res {s : ByteArray} {p : Nat} (hs : s.size ≤ 2000) (h : Stuck s p) : RefRes s 2 p := by
  rcases h with ⟨a, f, h1, h2⟩ | ⟨rfl, f, h1, h2⟩
  · exact .inr (.inl ⟨hs, p, f, a, h1, h2, rfl, rfl⟩)
  · exact .inr (.inr (.inl ⟨hs, f, h1, h2, rfl, rfl⟩))

theorem badList_res {s : ByteArray} {p : Nat} (hs : s.size ≤ 2000) (h : BadList s p) : RefRes s 2 p := by
  obtain ⟨E, q, hc, hx⟩ := h
  obtain ⟨g, h1, h2, _, _, h5⟩ := chain_run (f := ⟨0, 0, false, 0⟩) rfl start0 hc
  apply stuck_res hs
  rcases hx with ⟨hq, hb⟩ | ⟨x, hg, hp, h44⟩ | ⟨hq, hq0, rfl⟩
  · exact bad_run h1 h2 hq hb
  · obtain ⟨g', i1, _, i3, _⟩ := good_run h1 h2 hg
    exact .inl ⟨hp, g', i1, stp_no i1 (by rw [i3 hp]; exact beq_eq_false_iff_ne.2 (by omega))⟩
  · have hE : E ≠ [] := fun e => by rw [e] at hc; exact hq0 hc
    have h1' : stp s s.size = some g := by rw [← hq]; exact h1
    refine .inr ⟨hq, g, h1', fun ha => ?_⟩
    have := h5 hE
    rcases ha with a | a | a <;> omega

theorem goodList_run {s : ByteArray} {E : List Ent} (h : GoodList s E) : ∃ f, stp s s.size = some f ∧ acc f ∧ hgh s s.size = hghE (-1) E := by
  rcases h with ⟨rfl, h0⟩ | ⟨E', x, q, rfl, hc, hg⟩
  · rw [h0]; exact ⟨⟨0, 0, false, 0⟩, rfl, .inl rfl, rfl⟩
  · obtain ⟨g, h1, h2, h3, _, _⟩ := chain_run (f := ⟨0, 0, false, 0⟩) rfl start0 hc
    obtain ⟨g', i1, i2, _, i4⟩ := good_run h1 h2 hg
    refine ⟨g', i1, i2, ?_⟩
    rw [i4, h3, hghE_append]
    rfl

theorem goodList_ok {s : ByteArray} {E : List Ent} (hs : s.size ≤ 2000) (h : GoodList s E) (hc : ∀ j (hj : j < E.length), E[j].cost ≤ 1000) : RefRes s 0 0 := by
  obtain ⟨f, h1, h2, h3⟩ := goodList_run h
  rw [hghE_none E hc] at h3
  exact .inr (.inr (.inr (.inr ⟨hs, f, h1, h2, by omega, rfl, rfl⟩)))

theorem goodList_cost {s : ByteArray} {E : List Ent} (hs : s.size ≤ 2000) (h : GoodList s E) (k : Nat) (hk : k < E.length) (hx : 1000 < E[k].cost) (hc : ∀ j (hj : j < k), E[j].cost ≤ 1000) : RefRes s 3 E[k].dig := by
  obtain ⟨f, h1, h2, h3⟩ := goodList_run h
  rw [hghE_first E k hk hx hc] at h3
  exact .inr (.inr (.inr (.inl ⟨hs, f, h1, h2, by omega, rfl, h3.symm⟩)))

end Go.Proofs.YtlfpepehngkehabDoor
/-
  Plain mathematics: a dictionary, a word more, a word less, by place.
-/
namespace Go.Proofs.YtlfpepehngkehabDoor
set_option linter.unusedSimpArgs false
set_option linter.unusedVariables false

theorem dic_at {D : Dic} {k : Nat} (h : k < D.length) : D = D.take k ++ D[k] :: D.drop (k + 1) := by
  rw [← List.drop_eq_getElem_cons h, List.take_append_drop]

theorem dic_set {D : Dic} {k : Nat} (h : k < D.length) (p : ByteArray × Nat) : D.set k p = D.take k ++ p :: D.drop (k + 1) := by
  rw [List.set_eq_take_append_cons_drop, if_pos h]

theorem rep_set {D : Dic} {E : List Ent} {x : Ent} {k : Nat} (h : Rep D E) (hx : x.inn = true) (hk : k < D.length) (hw : D[k].1 = x.word) : Rep (D.set k (x.word, x.cost)) (E ++ [x]) := by
  rw [dic_set hk]
  have e := dic_at hk
  have e2 : D[k] = (x.word, D[k].2) := by rw [← hw]
  rw [e2] at e
  exact Rep.put_old (c0 := D[k].2) (by rw [← e]; exact h) hx

theorem split_right {D : Dic} {x : ByteArray} {k : Nat} (hs : Srt D) (h : SplitAt D x k) (hn : ∀ (h : k < D.length), D[k].1 ≠ x) : (∀ p ∈ D.take k, wl p.1 x = true) ∧ ∀ p ∈ D.drop k, wl x p.1 = true := by
  obtain ⟨h0, h1, h2⟩ := h
  have gt : ∀ j (hj : j < D.length), k ≤ j → wl x D[j].1 = true := by
    intro j hj hkj
    have hk : k < D.length := by omega
    have a : wl x D[k].1 = true := by
      cases e : wl x D[k].1 with
      | true => rfl
      | false => exact absurd (wl_tri (h2 k hk (Nat.le_refl _)) e) (hn hk)
    by_cases e : j = k
    · subst e; exact a
    · exact wl_trans a (List.pairwise_iff_getElem.1 hs k j hk hj (by omega))
  constructor
  · intro p hp
    obtain ⟨j, hj, rfl⟩ := List.mem_iff_getElem.1 hp
    simp at hj
    rw [List.getElem_take]
    exact h1 j (by omega) (by omega)
  · intro p hp
    obtain ⟨j, hj, rfl⟩ := List.mem_iff_getElem.1 hp
    simp at hj
    rw [List.getElem_drop]
    exact gt (k + j) (by omega) (by omega)

theorem rep_ins {D : Dic} {E : List Ent} {x : Ent} {k : Nat} (h : Rep D E) (hx : x.inn = true) (hs : SplitAt D x.word k) (hn : ∀ (h : k < D.length), D[k].1 ≠ x.word) : Rep (D.take k ++ (x.word, x.cost) :: D.drop k) (E ++ [x]) := by
  obtain ⟨a, b⟩ := split_right h.1 hs hn
  exact Rep.put_new (by rw [List.take_append_drop]; exact h) hx a b

theorem rep_del {D : Dic} {E : List Ent} {x : Ent} {k : Nat} (h : Rep D E) (hx : x.inn = false) (hk : k < D.length) (hw : D[k].1 = x.word) : Rep (D.take k ++ D.drop (k + 1)) (E ++ [x]) := by
  have e := dic_at hk
  have e2 : D[k] = (x.word, D[k].2) := by rw [← hw]
  rw [e2] at e
  exact Rep.drop_old (c0 := D[k].2) (by rw [← e]; exact h) hx

theorem rep_del_none {D : Dic} {E : List Ent} {x : Ent} {k : Nat} (h : Rep D E) (hx : x.inn = false) (hs : SplitAt D x.word k) (hn : ∀ (h : k < D.length), D[k].1 ≠ x.word) : Rep D (E ++ [x]) := by
  obtain ⟨a, b⟩ := split_right h.1 hs hn
  refine Rep.drop_none h hx fun c hc => ?_
  rw [← List.take_append_drop k D, List.mem_append] at hc
  rcases hc with hc | hc
  · exact absurd rfl (wl_ne (a _ hc))
  · exact absurd rfl (wl_ne (b _ hc)).symm

/-- a row in which the place i is being freed: what stands behind i has moved by one. -/
def hole (D : Dic) (i : Nat) (p : ByteArray × Nat) : Dic := D.take i ++ p :: D.drop i

theorem hole_length {D : Dic} {i : Nat} {p : ByteArray × Nat} (h : i ≤ D.length) : (hole D i p).length = D.length + 1 := by simp [hole]; omega
theorem hole_end (D : Dic) (p : ByteArray × Nat) : hole D D.length p = D ++ [p] := by simp [hole]
theorem hole_before {D : Dic} {i j : Nat} {p : ByteArray × Nat} (h : i ≤ D.length) (hj : j < i) : (hole D i p)[j]'(by rw [hole_length h]; omega) = D[j] := by
  unfold hole
  rw [List.getElem_append_left (by simp; omega), List.getElem_take]
theorem hole_step {D : Dic} {i : Nat} {p : ByteArray × Nat} (h : i < D.length) : (hole D (i + 1) p).set (i + 1) D[i] = hole D i D[i] := by
  unfold hole
  rw [List.set_append_right _ _ (by simp; omega)]
  have e : i + 1 - (D.take (i + 1)).length = 0 := by simp; omega
  rw [e, List.set_cons_zero, List.take_succ_eq_append_getElem h, List.drop_eq_getElem_cons h]
  simp only [List.append_assoc, List.singleton_append]
theorem hole_fill {D : Dic} {i : Nat} {p q : ByteArray × Nat} (h : i ≤ D.length) : (hole D i p).set i q = hole D i q := by
  unfold hole
  rw [List.set_append_right _ _ (by simp; omega)]
  have e : i - (D.take i).length = 0 := by simp; omega
  rw [e, List.set_cons_zero]

/-- a dictionary without the word at k. -/
def del (D : Dic) (k : Nat) : Dic := D.take k ++ D.drop (k + 1)
/-- the same on the way: up to i the words have moved. -/
def shl (D : Dic) (k i : Nat) : Dic := (del D k).take i ++ D.drop i

theorem del_length {D : Dic} {k : Nat} (h : k < D.length) : (del D k).length = D.length - 1 := by simp [del]; omega
theorem shl_length {D : Dic} {k i : Nat} (h : k < D.length) (hi : i < D.length) : (shl D k i).length = D.length := by
  have := del_length h
  simp [shl]; omega
theorem shl_start {D : Dic} {k : Nat} (h : k < D.length) : shl D k k = D := by
  unfold shl del
  rw [List.take_append_of_le_length (by simp; omega), List.take_take, Nat.min_self, List.take_append_drop]
theorem shl_next {D : Dic} {k i : Nat} (h : k < D.length) (hi : i + 1 < D.length) : (shl D k i)[i + 1]'(by rw [shl_length h (by omega)]; omega) = D[i + 1] := by
  have := del_length h
  unfold shl
  rw [List.getElem_append_right (by simp; omega), List.getElem_drop]
  congr 1
  simp
  omega
theorem shl_step {D : Dic} {k i : Nat} (h : k < D.length) (hk : k ≤ i) (hi : i + 1 < D.length) : (shl D k i).set i D[i + 1] = shl D k (i + 1) := by
  have hd := del_length h
  have he : (del D k)[i]'(by omega) = D[i + 1] := by
    unfold del
    rw [List.getElem_append_right (by simp; omega), List.getElem_drop]
    congr 1
    simp
    omega
  unfold shl
  rw [List.set_append_right _ _ (by simp; omega)]
  have e : i - ((del D k).take i).length = 0 := by simp; omega
  rw [e, List.drop_eq_getElem_cons (by omega), List.set_cons_zero, List.take_succ_eq_append_getElem (by omega), he]
  simp only [List.append_assoc, List.singleton_append]
theorem shl_end {D : Dic} {k m : Nat} (h : k < D.length) (hm : D.length = m + 1) (p : ByteArray × Nat) : (shl D k m).set m p = del D k ++ [p] := by
  have hd := del_length h
  unfold shl
  rw [List.set_append_right _ _ (by simp; omega)]
  have e : m - ((del D k).take m).length = 0 := by simp; omega
  rw [e, List.drop_eq_getElem_cons (by omega), List.set_cons_zero, List.drop_of_length_le (by omega), List.take_of_length_le (by omega)]

theorem srt_before {D : Dic} (hs : Srt D) {i j : Nat} (hj : j < D.length) (hij : i < j) : wl D[i].1 D[j].1 = true := List.pairwise_iff_getElem.1 hs i j (by omega) hj hij

theorem find_up {D : Dic} (hs : Srt D) {m : Nat} {x : ByteArray} (hm : m < D.length) (h : wl D[m].1 x = true) : ∀ j (hj : j < D.length), j < m + 1 → wl D[j].1 x = true := by
  intro j hj hjm
  by_cases e : j = m
  · subst e; exact h
  · exact wl_trans (srt_before hs hm (by omega)) h

theorem find_down {D : Dic} (hs : Srt D) {m : Nat} {x : ByteArray} (hm : m < D.length) (h : wl D[m].1 x = false) : ∀ j (hj : j < D.length), m ≤ j → wl D[j].1 x = false := by
  intro j hj hjm
  by_cases e : j = m
  · subst e; exact h
  · cases e' : wl D[j].1 x with
    | false => rfl
    | true => have := wl_trans (srt_before hs (i := m) hj (by omega)) e'; rw [h] at this; cases this

end Go.Proofs.YtlfpepehngkehabDoor
/-
  Plain mathematics: lists of lists; what Build answers.
-/
namespace Go.Proofs.YtlfpepehngkehabDoor
set_option linter.unusedSimpArgs false
set_option linter.unusedVariables false

def OkList (s : ByteArray) (E : List Ent) : Prop := s.size ≤ 2000 ∧ GoodList s E ∧ (∀ j (hj : j < E.length), E[j].cost ≤ 1000) ∧ E.length ≤ s.size

/-- the entries of the first i lists, all of which are such. -/
def OkUpTo (ss : List ByteArray) : Nat → List Ent → Prop
  | 0, E => E = []
  | i + 1, E => ∃ E1 E2, OkUpTo ss i E1 ∧ (∃ h : i < ss.length, OkList ss[i] E2) ∧ E = E1 ++ E2

theorem OkList.res {s : ByteArray} {E : List Ent} (h : OkList s E) : RefRes s 0 0 := goodList_ok h.1 h.2.1 h.2.2.1

def WordOk (x : Ent) : Prop := 1 ≤ x.word.size ∧ x.word.size ≤ 12 ∧ x.cost ≤ 9999

theorem GoodEntry.ok {s : ByteArray} {k p : Nat} {x : Ent} (h : GoodEntry s k x p) : WordOk x := by
  have hc := h.le.2.2.1
  obtain ⟨n, hw, h1, h2, h3, _⟩ := h
  have := hw.le
  refine ⟨?_, ?_, hc⟩ <;> rw [h3] <;> simp <;> omega

theorem chain_ok {s : ByteArray} {q : Nat} : ∀ {E : List Ent} {k : Nat}, Chain s k E q → ∀ x ∈ E, WordOk x
  | [], _, _, x, hx => by cases hx
  | y :: E, k, h, x, hx => by
    obtain ⟨p, hg, _, _, hc⟩ := h
    rcases List.mem_cons.1 hx with rfl | hx
    · exact hg.ok
    · exact chain_ok hc x hx

theorem goodList_ok' {s : ByteArray} {E : List Ent} (h : GoodList s E) : ∀ x ∈ E, WordOk x := by
  rcases h with ⟨rfl, _⟩ | ⟨E', y, q, rfl, hc, hg⟩
  · intro x hx; cases hx
  · intro x hx
    rcases List.mem_append.1 hx with hx | hx
    · exact chain_ok hc x hx
    · rcases List.mem_cons.1 hx with rfl | hx
      · exact hg.ok
      · cases hx

theorem OkUpTo.ok {ss : List ByteArray} : ∀ {i : Nat} {E : List Ent}, OkUpTo ss i E → ∀ x ∈ E, WordOk x
  | 0, E, h, x, hx => by cases h; cases hx
  | i + 1, E, h, x, hx => by
    obtain ⟨E1, E2, h1, ⟨_, h2⟩, rfl⟩ := h
    rcases List.mem_append.1 hx with hx | hx
    · exact h1.ok x hx
    · exact goodList_ok' h2.2.1 x hx

theorem OkUpTo.length {ss : List ByteArray} : ∀ {i : Nat} {E : List Ent}, OkUpTo ss i E → E.length ≤ i * 2000
  | 0, E, h => by cases h; simp
  | i + 1, E, h => by
    obtain ⟨E1, E2, h1, ⟨_, h2⟩, rfl⟩ := h
    have := h1.length
    have := h2.2.2.2
    have := h2.1
    simp; omega

/-- every word of a dictionary of entries is one of theirs. -/
theorem eff_mem {E : List Ent} {w : ByteArray} {c : Nat} (h : eff E w = some c) : ∃ x ∈ E, x.word = w ∧ x.inn = true ∧ x.cost = c := by
  suffices ∀ (S : List Ent) (o : Option Nat), S.foldl (fun o x => stepE x w o) o = some c → o = some c ∨ ∃ x ∈ S, x.word = w ∧ x.inn = true ∧ x.cost = c by
    rcases this E none h with e | e
    · cases e
    · exact e
  intro S
  induction S with
  | nil => intro o h; exact .inl h
  | cons y S ih =>
    intro o h
    rcases ih _ h with e | ⟨x, hx, e⟩
    · have e : stepE y w o = some c := e
      unfold stepE at e
      split at e
      · rename_i hw
        split at e
        · rename_i hi
          cases e
          exact .inr ⟨y, List.mem_cons_self, hw, hi, rfl⟩
        · cases e
      · exact .inl e
    · exact .inr ⟨x, List.mem_cons_of_mem _ hx, e⟩

theorem Rep.words {D : Dic} {E : List Ent} (h : Rep D E) (hE : ∀ x ∈ E, WordOk x) : ∀ p ∈ D, 1 ≤ p.1.size ∧ p.1.size ≤ 12 := by
  intro p hp
  obtain ⟨x, hx, e, _, _⟩ := eff_mem ((h.2 p.1 p.2).1 hp)
  have := hE x hx
  rw [← e]
  exact ⟨this.1, this.2.1⟩

/-- what both sides' Build must answer. -/
def BuildNo (ss : List ByteArray) (err : Int) : Prop :=
  (8 < ss.length ∧ err = 4) ∨
  (ss.length ≤ 8 ∧ ∃ (i : Nat) (E : List Ent) (p : Int), OkUpTo ss i E ∧ (∃ h : i < ss.length, RefRes ss[i] err p) ∧ err ≠ 0) ∨
  (ss.length ≤ 8 ∧ ∃ (E : List Ent) (D : Dic), OkUpTo ss ss.length E ∧ Rep D E ∧ 150 < D.length ∧ err = 4)

def BuildYes (ss : List ByteArray) (D : Dic) : Prop := ss.length ≤ 8 ∧ ∃ E, OkUpTo ss ss.length E ∧ Rep D E ∧ D.length ≤ 150

end Go.Proofs.YtlfpepehngkehabDoor
/-
  Plain mathematics: the reference takes a list apart.
-/
namespace Go.Proofs.YtlfpepehngkehabDoor
set_option linter.unusedSimpArgs false
set_option linter.unusedVariables false

/-- the entries from q on, up to the end. -/
def Rest (s : ByteArray) : Nat → List Ent → Prop
  | _, [] => False
  | q, x :: E => ∃ p, GoodEntry s q x p ∧ ((E = [] ∧ p = s.size) ∨ (E ≠ [] ∧ p < s.size ∧ bt s p = 44 ∧ Rest s (p + 1) E))

theorem rest_of_chain {s : ByteArray} {x : Ent} {q : Nat} (hg : GoodEntry s q x s.size) : ∀ {E : List Ent} {k : Nat}, Chain s k E q → Rest s k (E ++ [x])
  | [], k, h => by cases h; exact ⟨s.size, hg, .inl ⟨rfl, rfl⟩⟩
  | y :: E, k, h => by
    obtain ⟨p, h1, h2, h3, h4⟩ := h
    exact ⟨p, h1, .inr ⟨by simp, h2, h3, rest_of_chain hg h4⟩⟩

theorem rest_of_good {s : ByteArray} {E : List Ent} (h : GoodList s E) : (E = [] ∧ s.size = 0) ∨ Rest s 0 E := by
  rcases h with h | ⟨E', x, q, rfl, hc, hg⟩
  · exact .inl h
  · exact .inr (rest_of_chain hg hc)

theorem word_byte {s : ByteArray} {k n j : Nat} (h : WordAt s k n) (h1 : k ≤ j) (h2 : j < k + n) : srt (bt s j) = 1 ∨ srt (bt s j) = 2 ∨ srt (bt s j) = 4 := by
  rcases h with ⟨rfl, _⟩ | ⟨_, _, _, hl, hall, _⟩
  · omega
  · by_cases e : j = k
    · subst e; rcases hl with a | a
      · exact .inl a
      · exact .inr (.inl a)
    · rcases hall j (by omega) h2 with a | a
      · rw [a]; rcases hl with a | a
        · exact .inl a
        · exact .inr (.inl a)
      · exact .inr (.inr a)

theorem word_plain {s : ByteArray} {k n j : Nat} (h : WordAt s k n) (h1 : k ≤ j) (h2 : j < k + n) : bt s j ≠ 44 ∧ bt s j ≠ 61 ∧ bt s j ≠ 33 := by
  have := word_byte h h1 h2
  simp only [srt_1, srt_2, srt_4] at this
  omega

theorem good_nocomma {s : ByteArray} {q p i : Nat} {x : Ent} (h : GoodEntry s q x p) (h1 : q ≤ i) (h2 : i < p) : bt s i ≠ 44 := by
  obtain ⟨n, hw, hn, hlt, _, hx⟩ := h
  by_cases hi : i < q + n
  · exact (word_plain hw h1 hi).1
  · rcases hx with ⟨h33, _, _, _, rfl⟩ | ⟨h61, m, _, hd, _, _, _, rfl⟩
    · have : i = q + n := by omega
      rw [this]; omega
    · by_cases e : i = q + n
      · rw [e]; omega
      · have := hd.2.2.1 i (by omega) (by omega)
        rw [srt_3] at this
        omega

/-- an entry's cost, as the reference keeps it. -/
def refC (x : Ent) : Int := if x.inn = true then (x.cost : Int) else -1

end Go.Proofs.YtlfpepehngkehabDoor
/-
  Plain mathematics: a list has one row of entries alone.
-/
namespace Go.Proofs.YtlfpepehngkehabDoor
set_option linter.unusedSimpArgs false
set_option linter.unusedVariables false

theorem WordAt.one {s : ByteArray} {k n m : Nat} (h : WordAt s k n) (h' : WordAt s k m) : n = m := by
  rcases h with ⟨e, a⟩ | ⟨a1, a2, a3, a4, a5, a6⟩
  · rcases h' with ⟨e', _⟩ | ⟨b1, _, b3, b4, _⟩
    · omega
    · rcases a with a | a
      · omega
      · omega
  · rcases h' with ⟨e', b⟩ | ⟨b1, b2, b3, b4, b5, b6⟩
    · rcases b with b | b
      · omega
      · omega
    · by_cases h1 : n < m
      · have := b5 (k + n) (by omega) (by omega)
        rcases a6 with a6 | a6 | a6 <;> omega
      · by_cases h2 : m < n
        · have := a5 (k + m) (by omega) (by omega)
          rcases b6 with b6 | b6 | b6 <;> omega
        · omega

theorem DigitsAt.one {s : ByteArray} {k n m : Nat} (h : DigitsAt s k n) (h' : DigitsAt s k m) : n = m := by
  obtain ⟨a1, a2, a3, a4⟩ := h
  obtain ⟨b1, b2, b3, b4⟩ := h'
  by_cases h1 : n < m
  · have := b3 (k + n) (by omega) (by omega)
    rcases a4 with a4 | a4 | a4 <;> omega
  · by_cases h2 : m < n
    · have := a3 (k + m) (by omega) (by omega)
      rcases b4 with b4 | b4 | b4 <;> omega
    · omega

theorem GoodEntry.one {s : ByteArray} {k p q : Nat} {x y : Ent} (h : GoodEntry s k x p) (h' : GoodEntry s k y q) : x = y ∧ p = q := by
  obtain ⟨n, a1, a2, a3, a4, a5⟩ := h
  obtain ⟨m, b1, b2, b3, b4, b5⟩ := h'
  obtain rfl := a1.one b1
  obtain ⟨xw, xi, xc, xd⟩ := x
  obtain ⟨yw, yi, yc, yd⟩ := y
  simp only at a4 b4 a5 b5
  subst a4 b4
  rcases a5 with ⟨_, rfl, rfl, rfl, rfl⟩ | ⟨a6, m1, _, a7, rfl, rfl, rfl, rfl⟩
  · rcases b5 with ⟨_, rfl, rfl, rfl, rfl⟩ | ⟨b6, _⟩
    · exact ⟨rfl, rfl⟩
    · omega
  · rcases b5 with ⟨b6, _⟩ | ⟨_, m2, _, b7, rfl, rfl, rfl, rfl⟩
    · omega
    · obtain rfl := a7.one b7
      exact ⟨rfl, rfl⟩

theorem Rest.one {s : ByteArray} : ∀ {E F : List Ent} {q : Nat}, Rest s q E → Rest s q F → E = F
  | [], _, _, h, _ => h.elim
  | _ :: _, [], _, _, h => h.elim
  | x :: E, y :: F, q, h, h' => by
    obtain ⟨p, hg, hr⟩ := h
    obtain ⟨p', hg', hr'⟩ := h'
    obtain ⟨rfl, rfl⟩ := hg.one hg'
    rcases hr with ⟨rfl, e⟩ | ⟨_, a, _, hr⟩
    · rcases hr' with ⟨rfl, _⟩ | ⟨_, b, _⟩
      · rfl
      · omega
    · rcases hr' with ⟨_, e⟩ | ⟨_, _, _, hr'⟩
      · omega
      · rw [Rest.one hr hr']

theorem GoodList.one {s : ByteArray} {E F : List Ent} (h : GoodList s E) (h' : GoodList s F) : E = F := by
  rcases rest_of_good h with ⟨rfl, e⟩ | hr
  · rcases rest_of_good h' with ⟨rfl, _⟩ | hr'
    · rfl
    · cases F with
      | nil => rfl
      | cons y F =>
        obtain ⟨p, hg, _⟩ := hr'
        have := hg.le
        omega
  · rcases rest_of_good h' with ⟨rfl, e⟩ | hr'
    · cases E with
      | nil => rfl
      | cons y F =>
        obtain ⟨p, hg, _⟩ := hr
        have := hg.le
        omega
    · exact hr.one hr'

theorem OkUpTo.one {ss : List ByteArray} : ∀ {i : Nat} {E F : List Ent}, OkUpTo ss i E → OkUpTo ss i F → E = F
  | 0, E, F, h, h' => by cases h; cases h'; rfl
  | i + 1, E, F, h, h' => by
    obtain ⟨E1, E2, h1, ⟨_, h2⟩, rfl⟩ := h
    obtain ⟨F1, F2, k1, ⟨_, k2⟩, rfl⟩ := h'
    rw [h1.one k1, h2.2.1.one k2.2.1]

/-- Build cannot refuse lists that are such and hold few words. -/
theorem build_ok {ss : List ByteArray} {E : List Ent} (h8 : ss.length ≤ 8) (h : OkUpTo ss ss.length E) (hl : ∀ D, Rep D E → D.length ≤ 150) (err : Int) : ¬ BuildNo ss err := by
  have hall : ∀ (n : Nat) (E : List Ent), OkUpTo ss n E → ∀ i (hi : i < ss.length), i < n → RefRes ss[i] 0 0 := by
    intro n
    induction n with
    | zero => intro E _ i _ h; omega
    | succ n ih =>
      intro E hE i hi hlt
      obtain ⟨E1, E2, h1, ⟨hn, h2⟩, _⟩ := hE
      by_cases e : i = n
      · subst e; exact h2.res
      · exact ih E1 h1 i hi (by omega)
  rintro (⟨a, _⟩ | ⟨_, i, F, p, hF, ⟨hi, hr⟩, hne⟩ | ⟨_, F, D, hF, hR, h150, _⟩)
  · omega
  · exact hne ((hall _ E h i hi hi).unique hr).1.symm
  · obtain rfl := h.one hF
    have := hl D hR
    omega

end Go.Proofs.YtlfpepehngkehabDoor
/-
  Plain mathematics: what Build makes is a dictionary.
-/
namespace Go.Proofs.YtlfpepehngkehabDoor
set_option linter.unusedSimpArgs false
set_option linter.unusedVariables false

theorem GoodEntry.word {s : ByteArray} {k p : Nat} {x : Ent} (h : GoodEntry s k x p) : IsWord x.word := by
  obtain ⟨n, hw, h1, h2, h3, _⟩ := h
  rcases hw with ⟨h, _⟩ | ⟨_, a2, a3, a4, a5, _⟩
  · omega
  · have hz : (s.extract k (k + n)).size = n := by simp; omega
    have hb : ∀ j, j < n → bt (s.extract k (k + n)) j = bt s (k + j) := fun j hj => bt_extract s k (k + n) j (by omega) (by omega)
    rw [h3]
    refine ⟨by omega, by omega, Nat.le_refl _, ?_, fun j b c => ?_⟩
    · rw [hb 0 (by omega)]; exact a4
    · rw [hz] at c
      rw [hb 0 (by omega), hb j c]
      exact a5 (k + j) (by omega) (by omega)

theorem chain_word {s : ByteArray} {q : Nat} : ∀ {E : List Ent} {k : Nat}, Chain s k E q → ∀ x ∈ E, IsWord x.word
  | [], _, _, x, hx => by cases hx
  | y :: E, k, h, x, hx => by
    obtain ⟨p, hg, _, _, hc⟩ := h
    rcases List.mem_cons.1 hx with rfl | hx
    · exact hg.word
    · exact chain_word hc x hx

theorem OkList.words {s : ByteArray} {E : List Ent} (h : OkList s E) : ∀ x ∈ E, IsWord x.word ∧ x.cost ≤ 1000 := by
  obtain ⟨_, hg, hc, _⟩ := h
  intro x hx
  refine ⟨?_, ?_⟩
  · rcases hg with ⟨rfl, _⟩ | ⟨E', y, q, rfl, hch, hgy⟩
    · cases hx
    · rcases List.mem_append.1 hx with hx | hx
      · exact chain_word hch x hx
      · rcases List.mem_cons.1 hx with rfl | hx
        · exact hgy.word
        · cases hx
  · obtain ⟨j, hj, rfl⟩ := List.mem_iff_getElem.1 hx
    exact hc j hj

theorem OkUpTo.words {ss : List ByteArray} : ∀ {i : Nat} {E : List Ent}, OkUpTo ss i E → ∀ x ∈ E, IsWord x.word ∧ x.cost ≤ 1000
  | 0, E, h, x, hx => by cases h; cases hx
  | i + 1, E, h, x, hx => by
    obtain ⟨E1, E2, h1, ⟨_, h2⟩, rfl⟩ := h
    rcases List.mem_append.1 hx with hx | hx
    · exact h1.words x hx
    · exact h2.words x hx

theorem rep_good {D : Dic} {E : List Ent} {ss : List ByteArray} {n : Nat} (h : OkUpTo ss n E) (hr : Rep D E) (hl : D.length ≤ 150) : GoodDic D := by
  refine ⟨hl, hr.1, fun p hp => ?_⟩
  obtain ⟨x, hx, e1, _, e2⟩ := eff_mem ((hr.2 p.1 p.2).1 hp)
  have := h.words x hx
  rw [← e1, ← e2]
  exact this

theorem BuildYes.good {ss : List ByteArray} {D : Dic} (h : BuildYes ss D) : GoodDic D := by
  obtain ⟨_, E, h1, h2, h3⟩ := h
  exact rep_good h1 h2 h3

end Go.Proofs.YtlfpepehngkehabDoor
/-
  Plain mathematics: clusters, sorts, runs; words that stand.
-/
namespace Go.Proofs.YtlfpepehngkehabDoor
set_option linter.unusedSimpArgs false
set_option linter.unusedVariables false

/-- a cluster begins at i, or the text ends there. -/
def Edge (t : ByteArray) (i : Nat) : Prop := i = 0 ∨ i = t.size ∨ bt t i ≠ 126
instance (t : ByteArray) (i : Nat) : Decidable (Edge t i) := inferInstanceAs (Decidable (_ ∨ _))

/-- the beginning of the cluster to which the byte at i belongs. -/
def frst (t : ByteArray) : Nat → Nat
  | 0 => 0
  | i + 1 => if Edge t (i + 1) then i + 1 else frst t i

theorem frst_le (t : ByteArray) : ∀ i, frst t i ≤ i
  | 0 => Nat.le_refl _
  | i + 1 => by
    simp only [frst]
    split
    · omega
    · have := frst_le t i; omega

theorem frst_edge {t : ByteArray} {i : Nat} (h : Edge t i) : frst t i = i := by
  cases i with
  | zero => rfl
  | succ i => simp only [frst]; rw [if_pos h]

theorem frst_pred {t : ByteArray} {i : Nat} (h : ¬ Edge t i) : 1 ≤ i ∧ frst t i = frst t (i - 1) := by
  cases i with
  | zero => exact absurd (.inl rfl) h
  | succ i => exact ⟨by omega, by simp only [frst]; rw [if_neg h]; rfl⟩

theorem edge_zero (t : ByteArray) : Edge t 0 := .inl rfl
theorem edge_end (t : ByteArray) : Edge t t.size := .inr (.inl rfl)

theorem frst_is (t : ByteArray) : ∀ i, Edge t (frst t i)
  | 0 => edge_zero t
  | i + 1 => by
    simp only [frst]
    split
    · assumption
    · exact frst_is t i

/-- the sort of a byte: of a cluster's first one. -/
def sortC (c : Nat) : Nat :=
  if 97 ≤ c ∧ c ≤ 122 then 115 else if 65 ≤ c ∧ c ≤ 90 then 99 else if 48 ≤ c ∧ c ≤ 57 then 100 else if c = 32 then 98 else 111

theorem sortC_lt (c : Nat) : sortC c < 256 := by unfold sortC; repeat (split <;> try omega)
theorem sortC_s {c : Nat} : sortC c = 115 ↔ 97 ≤ c ∧ c ≤ 122 := by unfold sortC; repeat (split <;> try omega)
theorem sortC_c {c : Nat} : sortC c = 99 ↔ 65 ≤ c ∧ c ≤ 90 := by unfold sortC; repeat (split <;> try omega)
theorem sortC_d {c : Nat} : sortC c = 100 ↔ 48 ≤ c ∧ c ≤ 57 := by unfold sortC; repeat (split <;> try omega)
theorem sortC_b {c : Nat} : sortC c = 98 ↔ c = 32 := by unfold sortC; repeat (split <;> try omega)

/-- the sort of the cluster to which the byte at i belongs. -/
def sortAt (t : ByteArray) (i : Nat) : Nat := sortC (bt t (frst t i))

/-- a run ends at i, within the text. -/
def Parts (t : ByteArray) (i : Nat) : Prop := Edge t i ∧ (sortAt t (i - 1) ≠ sortC (bt t i) ∨ sortAt t (i - 1) = 111)
instance (t : ByteArray) (i : Nat) : Decidable (Parts t i) := inferInstanceAs (Decidable (_ ∧ _))

/-- a word stands at i. -/
def Stands (t : ByteArray) (i : Nat) (x : ByteArray) : Prop := Edge t i ∧ i + x.size ≤ t.size ∧ t.extract i (i + x.size) = x ∧ Edge t (i + x.size)
instance (t : ByteArray) (i : Nat) (x : ByteArray) : Decidable (Stands t i x) := inferInstanceAs (Decidable (_ ∧ _))

/-- lists of boundaries, by the lower number where they first differ. -/
def llt : List Nat → List Nat → Bool
  | [], [] => false
  | [], _ :: _ => true
  | _ :: _, [] => false
  | a :: x, b :: y => decide (a < b) || (decide (a = b) && llt x y)

theorem llt_irrefl : ∀ l, llt l l = false
  | [] => rfl
  | a :: l => by simp [llt, llt_irrefl l]

theorem llt_trans : ∀ {a b c : List Nat}, llt a b = true → llt b c = true → llt a c = true
  | _, [], [], _, k => by simp [llt] at k
  | [], [], _ :: _, h, _ => by simp [llt] at h
  | _ :: _, [], _ :: _, h, _ => by simp [llt] at h
  | _, _ :: _, [], _, k => by simp [llt] at k
  | [], _ :: _, _ :: _, _, _ => rfl
  | x :: a, y :: b, z :: c, h, k => by
    simp only [llt, Bool.or_eq_true, Bool.and_eq_true, decide_eq_true_eq] at h k ⊢
    rcases h with h | ⟨rfl, h⟩
    · rcases k with k | ⟨rfl, k⟩
      · exact .inl (by omega)
      · exact .inl h
    · rcases k with k | ⟨rfl, k⟩
      · exact .inl k
      · exact .inr ⟨rfl, llt_trans h k⟩

theorem llt_tri : ∀ {a b : List Nat}, llt a b = false → llt b a = false → a = b
  | [], [], _, _ => rfl
  | [], _ :: _, h, _ => by simp [llt] at h
  | _ :: _, [], _, k => by simp [llt] at k
  | x :: a, y :: b, h, k => by
    simp only [llt, Bool.or_eq_false_iff, Bool.and_eq_false_iff, decide_eq_false_iff_not] at h k
    obtain rfl : x = y := by omega
    rw [llt_tri (a := a) (b := b) (by rcases h.2 with h | h; exact absurd rfl h; exact h) (by rcases k.2 with h | h; exact absurd rfl h; exact h)]

theorem llt_asymm {a b : List Nat} (h : llt a b = true) : llt b a = false := by
  cases e : llt b a with
  | false => rfl
  | true => have := llt_trans h e; rw [llt_irrefl] at this; cases this

theorem llt_drop {a b : List Nat} {i : Nat} (hi : i < a.length) (hj : i < b.length) (e : a[i] = b[i]) : llt (a.drop i) (b.drop i) = llt (a.drop (i + 1)) (b.drop (i + 1)) := by
  rw [List.drop_eq_getElem_cons hi, List.drop_eq_getElem_cons hj]
  simp [llt, e]

theorem llt_ne {a b : List Nat} {i : Nat} (hi : i < a.length) (hj : i < b.length) (e : a[i] ≠ b[i]) : llt (a.drop i) (b.drop i) = decide (a[i] < b[i]) := by
  rw [List.drop_eq_getElem_cons hi, List.drop_eq_getElem_cons hj]
  simp [llt, e]

theorem llt_end {a b : List Nat} {i : Nat} (h : i = a.length ∨ i = b.length) (h1 : i ≤ a.length) (h2 : i ≤ b.length) : llt (a.drop i) (b.drop i) = decide (a.length < b.length) := by
  by_cases ha : i = a.length
  · rw [List.drop_of_length_le (l := a) (by omega)]
    by_cases hb : i = b.length
    · rw [List.drop_of_length_le (l := b) (by omega)]
      have : ¬ a.length < b.length := by omega
      simp [llt, this]
    · rw [List.drop_eq_getElem_cons (l := b) (show i < b.length by omega)]
      have : a.length < b.length := by omega
      simp [llt, this]
  · have hb : i = b.length := by omega
    rw [List.drop_of_length_le (l := b) (by omega), List.drop_eq_getElem_cons (l := a) (show i < a.length by omega)]
    have : ¬ a.length < b.length := by omega
    simp [llt, this]

end Go.Proofs.YtlfpepehngkehabDoor
/-
  Plain mathematics: rows of words; where a piece of capitals ends.
-/
namespace Go.Proofs.YtlfpepehngkehabDoor
set_option linter.unusedSimpArgs false
set_option linter.unusedVariables false

def wd (D : Dic) (k : Nat) : ByteArray := (D.getD k (ByteArray.empty, 0)).1
def ct (D : Dic) (k : Nat) : Nat := (D.getD k (ByteArray.empty, 0)).2

theorem wd_eq {D : Dic} {k : Nat} (h : k < D.length) : wd D k = D[k].1 := by simp [wd, List.getD_eq_getElem?_getD, List.getElem?_eq_getElem h]
theorem ct_eq {D : Dic} {k : Nat} (h : k < D.length) : ct D k = D[k].2 := by simp [ct, List.getD_eq_getElem?_getD, List.getElem?_eq_getElem h]

/-- the farthest of p and of what the first k words that stand there lead to. -/
def rowTo (f : Nat → Nat) (D : Dic) (t : ByteArray) (p : Nat) : Nat → Nat
  | 0 => p
  | j + 1 => if Stands t p (wd D j) then max (rowTo f D t p j) (f (p + (wd D j).size)) else rowTo f D t p j

/-- how far a row of at most n words from p on reaches, within what ends at hi. -/
def rch (D : Dic) (t : ByteArray) (hi : Nat) : Nat → Nat → Nat
  | 0, p => p
  | n + 1, p => if p < hi then rowTo (rch D t hi n) D t p D.length else p

/-- does some word stand there? -/
def AnyAt (D : Dic) (t : ByteArray) (i : Nat) : Prop := ∃ k, k < D.length ∧ Stands t i (wd D k)

/-- of the first n words that stand at i one that ends at e reaches farthest, and is the longest such. -/
def BestAhead (D : Dic) (t : ByteArray) (i hi n e : Nat) : Prop :=
  (∃ k, k < n ∧ Stands t i (wd D k) ∧ e = i + (wd D k).size) ∧
  ∀ k, k < n → Stands t i (wd D k) → rch D t hi 2 (i + (wd D k).size) < rch D t hi 2 e ∨ (rch D t hi 2 (i + (wd D k).size) = rch D t hi 2 e ∧ i + (wd D k).size ≤ e)

/-- P10: the piece that begins at i ends at e. -/
def AheadOk (D : Dic) (t : ByteArray) (i hi e : Nat) : Prop :=
  BestAhead D t i hi D.length e ∨ (¬ AnyAt D t i ∧ i < e ∧ e ≤ hi ∧ (e = hi ∨ AnyAt D t e) ∧ ∀ j, i < j → j < e → ¬ AnyAt D t j)

theorem BestAhead.any {D : Dic} {t : ByteArray} {i hi e : Nat} (h : BestAhead D t i hi D.length e) : AnyAt D t i := by
  obtain ⟨⟨k, a, b, _⟩, _⟩ := h; exact ⟨k, a, b⟩

theorem BestAhead.unique {D : Dic} {t : ByteArray} {i hi n e e' : Nat} (h : BestAhead D t i hi n e) (h' : BestAhead D t i hi n e') : e = e' := by
  obtain ⟨⟨k, a, b, rfl⟩, c⟩ := h
  obtain ⟨⟨k', a', b', rfl⟩, c'⟩ := h'
  have h1 := c k' a' b'
  have h2 := c' k a b
  omega

theorem AheadOk.unique {D : Dic} {t : ByteArray} {i hi e e' : Nat} (h : AheadOk D t i hi e) (h' : AheadOk D t i hi e') : e = e' := by
  rcases h with h | ⟨h1, h2, h3, h4, h5⟩
  · rcases h' with h' | ⟨h1', _⟩
    · exact h.unique h'
    · exact absurd h.any h1'
  · rcases h' with h' | ⟨_, h2', h3', h4', h5'⟩
    · exact absurd h'.any h1
    · by_cases hlt : e < e'
      · rcases h4 with h4 | h4
        · omega
        · exact absurd h4 (h5' e h2 hlt)
      · by_cases hgt : e' < e
        · rcases h4' with h4 | h4
          · omega
          · exact absurd h4 (h5 e' h2' hgt)
        · omega

/-- where the loop over the words is: what it has found. -/
def AheadTo (D : Dic) (t : ByteArray) (i hi n : Nat) (to' far : Int) : Prop :=
  ((∀ k, k < n → ¬ Stands t i (wd D k)) ∧ to' = -1 ∧ far = -1) ∨ ∃ e : Nat, BestAhead D t i hi n e ∧ to' = e ∧ far = rch D t hi 2 e

theorem AheadTo.skip {D : Dic} {t : ByteArray} {i hi n : Nat} {a b : Int} (h : AheadTo D t i hi n a b) (hn : ¬ Stands t i (wd D n)) : AheadTo D t i hi (n + 1) a b := by
  rcases h with ⟨h, e⟩ | ⟨e, ⟨⟨k, h1, h2⟩, h3⟩, h4⟩
  · refine .inl ⟨fun k hk => ?_, e⟩
    by_cases ek : k = n
    · subst ek; exact hn
    · exact h k (by omega)
  · refine .inr ⟨e, ⟨⟨k, by omega, h2⟩, fun j hj hs => ?_⟩, h4⟩
    by_cases ek : j = n
    · subst ek; exact absurd hs hn
    · exact h3 j (by omega) hs

theorem AheadTo.take {D : Dic} {t : ByteArray} {i hi n : Nat} {a b : Int} (h : AheadTo D t i hi n a b) (hn : Stands t i (wd D n)) (hr : b < rch D t hi 2 (i + (wd D n).size) ∨ (b = rch D t hi 2 (i + (wd D n).size) ∧ a < (i + (wd D n).size : Nat))) :
    AheadTo D t i hi (n + 1) (i + (wd D n).size : Nat) (rch D t hi 2 (i + (wd D n).size)) := by
  refine .inr ⟨_, ⟨⟨n, by omega, hn, rfl⟩, fun j hj hs => ?_⟩, rfl, rfl⟩
  by_cases ek : j = n
  · subst ek; exact .inr ⟨rfl, Nat.le_refl _⟩
  · rcases h with ⟨h, e⟩ | ⟨e, ⟨_, h3⟩, rfl, rfl⟩
    · exact absurd hs (h j (by omega))
    · have := h3 j (by omega) hs
      omega

theorem AheadTo.keep {D : Dic} {t : ByteArray} {i hi n : Nat} {a b : Int} (h : AheadTo D t i hi n a b) (hn : Stands t i (wd D n)) (hr : ¬ (b < rch D t hi 2 (i + (wd D n).size) ∨ (b = rch D t hi 2 (i + (wd D n).size) ∧ a < (i + (wd D n).size : Nat)))) :
    AheadTo D t i hi (n + 1) a b := by
  rcases h with ⟨h, rfl, rfl⟩ | ⟨e, ⟨⟨k, h1, h2⟩, h3⟩, rfl, rfl⟩
  · omega
  · refine .inr ⟨e, ⟨⟨k, by omega, h2⟩, fun j hj hs => ?_⟩, rfl, rfl⟩
    by_cases ek : j = n
    · subst ek; omega
    · exact h3 j (by omega) hs

end Go.Proofs.YtlfpepehngkehabDoor
/-
  Plain mathematics: ways through a run, and the best of them.
-/
namespace Go.Proofs.YtlfpepehngkehabDoor
set_option linter.unusedSimpArgs false
set_option linter.unusedVariables false

/-- a way: the sum of its costs, the boundaries behind its beginning. -/
abbrev BWay := Nat × List Nat

def bleq (a b : BWay) : Prop := a.1 < b.1 ∨ (a.1 = b.1 ∧ llt b.2 a.2 = false)

theorem bleq_refl (a : BWay) : bleq a a := .inr ⟨rfl, llt_irrefl _⟩
theorem bleq_trans {a b c : BWay} (h : bleq a b) (k : bleq b c) : bleq a c := by
  rcases h with h | ⟨h1, h2⟩
  · rcases k with k | ⟨k1, _⟩
    · exact .inl (by omega)
    · exact .inl (by omega)
  · rcases k with k | ⟨k1, k2⟩
    · exact .inl (by omega)
    · refine .inr ⟨by omega, ?_⟩
      cases e : llt c.2 a.2 with
      | false => rfl
      | true =>
        cases e2 : llt a.2 b.2 with
        | true => rw [llt_trans e e2] at k2; cases k2
        | false => rw [llt_tri e2 h2] at e; rw [e] at k2; cases k2
theorem bleq_total (a b : BWay) : bleq a b ∨ bleq b a := by
  unfold bleq
  rcases Nat.lt_trichotomy a.1 b.1 with h | h | h
  · exact .inl (.inl h)
  · cases e : llt b.2 a.2 with
    | false => exact .inl (.inr ⟨h, rfl⟩)
    | true => exact .inr (.inr ⟨h.symm, llt_asymm e⟩)
  · exact .inr (.inl h)
theorem bleq_antisymm {a b : BWay} (h : bleq a b) (k : bleq b a) : a = b := by
  rcases h with h | ⟨h1, h2⟩
  · rcases k with k | ⟨k, _⟩ <;> omega
  · rcases k with k | ⟨_, k⟩
    · omega
    · exact Prod.ext h1 (llt_tri k h2)

/-! steps -/
def StepC (t : ByteArray) (q p c : Nat) : Prop := Edge t q ∧ q < p ∧ p ≤ t.size ∧ Edge t p ∧ (∀ j, q < j → j < p → ¬ Edge t j) ∧ c = 500
def StepK (D : Dic) (t : ByteArray) (k q p c : Nat) : Prop := k < D.length ∧ Stands t q (wd D k) ∧ p = q + (wd D k).size ∧ c = ct D k
def Step (D : Dic) (t : ByteArray) (q p c : Nat) : Prop := StepC t q p c ∨ ∃ k, StepK D t k q p c

inductive Way (D : Dic) (t : ByteArray) (lo : Nat) : Nat → List Nat → Nat → Prop
  | nil : Way D t lo lo [] 0
  | snoc {q p c c' : Nat} {l : List Nat} : Way D t lo q l c → Step D t q p c' → Way D t lo p (l ++ [p]) (c + c')

/-- a dictionary whose words and costs are within their bounds. -/
def Small (D : Dic) : Prop := D.length ≤ 150 ∧ ∀ p ∈ D, 1 ≤ p.1.size ∧ p.1.size ≤ 12 ∧ p.2 ≤ 1000

theorem Small.at {D : Dic} (h : Small D) {k : Nat} (hk : k < D.length) : 1 ≤ (wd D k).size ∧ (wd D k).size ≤ 12 ∧ ct D k ≤ 1000 := by
  rw [wd_eq hk, ct_eq hk]; exact h.2 _ (List.getElem_mem hk)

theorem Step.lt {D : Dic} {t : ByteArray} {q p c : Nat} (hD : Small D) (h : Step D t q p c) : q < p ∧ p ≤ t.size ∧ c ≤ 1000 ∧ Edge t q ∧ Edge t p := by
  rcases h with ⟨h1, h2, h3, h4, _, rfl⟩ | ⟨k, hk, ⟨h1, h2, h3, h4⟩, rfl, rfl⟩
  · exact ⟨h2, h3, by omega, h1, h4⟩
  · have := hD.at hk
    exact ⟨by omega, h2, this.2.2, h1, h4⟩

theorem Way.facts {D : Dic} {t : ByteArray} {lo q c : Nat} {l : List Nat} (hD : Small D) (h : Way D t lo q l c) :
    l.length + lo ≤ q ∧ c ≤ 1000 * l.length ∧ l.Pairwise (· < ·) ∧ (∀ x ∈ l, lo < x ∧ x ≤ q) ∧ ((l = [] ∧ q = lo) ∨ q ∈ l) := by
  induction h with
  | nil => exact ⟨by simp, by simp, List.Pairwise.nil, fun x hx => by simp at hx, .inl ⟨rfl, rfl⟩⟩
  | snoc hw hs ih =>
    obtain ⟨h1, h2, h3, h4, h5⟩ := ih
    obtain ⟨s1, s2, s3, _⟩ := hs.lt hD
    refine ⟨by simp; omega, by simp; omega, ?_, ?_, .inr (by simp)⟩
    · rw [List.pairwise_append]
      refine ⟨h3, by simp, fun x hx y hy => ?_⟩
      simp at hy
      have := (h4 x hx).2
      omega
    · intro x hx
      rcases List.mem_append.1 hx with hx | hx
      · have := h4 x hx; omega
      · simp at hx; omega

/-- of two ways to one place neither list begins with the other. -/
theorem Way.noprefix {D : Dic} {t : ByteArray} {lo q c c' : Nat} {l r : List Nat} (hD : Small D) (h : Way D t lo q l c) (h' : Way D t lo q (l ++ r) c') : r = [] := by
  obtain ⟨_, _, _, _, h5⟩ := h.facts hD
  obtain ⟨_, _, k3, k4, k5⟩ := h'.facts hD
  rw [List.pairwise_append] at k3
  cases r with
  | nil => rfl
  | cons x r =>
    exfalso
    have hx := (k4 x (by simp)).1
    rcases h5 with ⟨rfl, rfl⟩ | h5
    · have := (k4 x (by simp)).2; omega
    · have h6 := k3.2.2 q h5 x (by simp)
      have := (k4 x (by simp)).2
      omega

theorem llt_snoc (p : Nat) : ∀ {a b : List Nat}, (∀ r, b = a ++ r → r = []) → llt a b = true → llt (a ++ [p]) (b ++ [p]) = true
  | [], b, hp, h => by have := hp b rfl; subst this; simp [llt] at h
  | _ :: _, [], _, h => by simp [llt] at h
  | x :: a, y :: b, hp, h => by
    simp only [llt, Bool.or_eq_true, Bool.and_eq_true, decide_eq_true_eq, List.cons_append] at h ⊢
    rcases h with h | ⟨rfl, h⟩
    · exact .inl h
    · exact .inr ⟨rfl, llt_snoc p (fun r hr => hp r (by rw [hr]; rfl)) h⟩

theorem bleq_snoc {D : Dic} {t : ByteArray} {lo q c c' k p : Nat} {l l' : List Nat} (hD : Small D) (h : Way D t lo q l c) (h' : Way D t lo q l' c') (hb : bleq (c, l) (c', l')) : bleq (c + k, l ++ [p]) (c' + k, l' ++ [p]) := by
  rcases hb with hb | ⟨h1, h2⟩
  · exact .inl (by simp only at hb ⊢; omega)
  · refine .inr ⟨by simp only at h1 ⊢; omega, ?_⟩
    simp only at h2 ⊢
    cases e : llt l l' with
    | false => rw [llt_tri e h2]; exact llt_irrefl _
    | true => exact llt_asymm (llt_snoc p (fun r hr => h.noprefix hD (hr ▸ h')) e)

/-! the best ways that are known -/
def WayS (D : Dic) (t : ByteArray) (lo : Nat) (S : Nat → Nat → Nat → Prop) (p : Nat) (b : BWay) : Prop :=
  (p = lo ∧ b = (0, [])) ∨ ∃ q l c c', Way D t lo q l c ∧ S q p c' ∧ b = (c + c', l ++ [p])

def BestAt (D : Dic) (t : ByteArray) (lo : Nat) (S : Nat → Nat → Nat → Prop) (p : Nat) : Option BWay → Prop
  | none => ∀ b, ¬ WayS D t lo S p b
  | some b => WayS D t lo S p b ∧ ∀ b', WayS D t lo S p b' → bleq b b'

def BestS (D : Dic) (t : ByteArray) (lo hi : Nat) (S : Nat → Nat → Nat → Prop) (f : Nat → Option BWay) : Prop := ∀ p, lo ≤ p → p ≤ hi → BestAt D t lo S p (f p)

theorem WayS.way {D : Dic} {t : ByteArray} {lo : Nat} {S : Nat → Nat → Nat → Prop} {p : Nat} {b : BWay} (hS : ∀ q p c, S q p c → Step D t q p c) (h : WayS D t lo S p b) : Way D t lo p b.2 b.1 := by
  rcases h with ⟨rfl, rfl⟩ | ⟨q, l, c, c', h1, h2, rfl⟩
  · exact .nil
  · exact .snoc h1 (hS _ _ _ h2)

theorem WayS.congr {D : Dic} {t : ByteArray} {lo : Nat} {S S' : Nat → Nat → Nat → Prop} {p : Nat} {b : BWay} (hS : ∀ q c, S q p c → S' q p c) (h : WayS D t lo S p b) : WayS D t lo S' p b := by
  rcases h with h | ⟨q, l, c, c', h1, h2, h3⟩
  · exact .inl h
  · exact .inr ⟨q, l, c, c', h1, hS _ _ h2, h3⟩

theorem BestAt.congr {D : Dic} {t : ByteArray} {lo : Nat} {S S' : Nat → Nat → Nat → Prop} {p : Nat} {o : Option BWay} (hS : ∀ q c, S q p c ↔ S' q p c) (h : BestAt D t lo S p o) : BestAt D t lo S' p o := by
  cases o with
  | none => exact fun b hb => h b (hb.congr fun q c => (hS q c).2)
  | some b => exact ⟨h.1.congr fun q c => (hS q c).1, fun b' hb => h.2 b' (hb.congr fun q c => (hS q c).2)⟩

theorem BestS.congr {D : Dic} {t : ByteArray} {lo hi : Nat} {S S' : Nat → Nat → Nat → Prop} {f : Nat → Option BWay} (hS : ∀ q p c, S q p c ↔ S' q p c) (h : BestS D t lo hi S f) : BestS D t lo hi S' f :=
  fun p h1 h2 => (h p h1 h2).congr fun q c => hS q p c

/-- the better of a way with a step more, and an old one. -/
def stepW (b : BWay) (c p : Nat) (old : Option BWay) : BWay :=
  match old with
  | none => (b.1 + c, b.2 ++ [p])
  | some o => if b.1 + c < o.1 ∨ (b.1 + c = o.1 ∧ llt (b.2 ++ [p]) o.2 = true) then (b.1 + c, b.2 ++ [p]) else o

theorem stepW_le (b : BWay) (c p : Nat) (old : Option BWay) : bleq (stepW b c p old) (b.1 + c, b.2 ++ [p]) ∧ (∀ o, old = some o → bleq (stepW b c p old) o) ∧ (stepW b c p old = (b.1 + c, b.2 ++ [p]) ∨ some (stepW b c p old) = old) := by
  cases old with
  | none => exact ⟨bleq_refl _, (fun o h => by cases h), .inl rfl⟩
  | some o =>
    simp only [stepW]
    split
    · rename_i h
      refine ⟨bleq_refl _, fun o' e => ?_, .inl rfl⟩
      cases e
      rcases h with h | ⟨h1, h2⟩
      · exact .inl h
      · exact .inr ⟨h1, llt_asymm h2⟩
    · rename_i h
      refine ⟨?_, fun o' e => by cases e; exact bleq_refl _, .inr rfl⟩
      rcases bleq_total o (b.1 + c, b.2 ++ [p]) with k | k
      · exact k
      · rcases k with k | ⟨k1, k2⟩
        · exact absurd (.inl k) h
        · refine .inr ⟨k1.symm, ?_⟩
          cases e : llt (b.2 ++ [p]) o.2 with
          | false => rfl
          | true => exact absurd (.inr ⟨k1, e⟩) h

theorem BestS.add {D : Dic} {t : ByteArray} {lo hi i p0 c0 : Nat} {S S' : Nat → Nat → Nat → Prop} {f : Nat → Option BWay} {b : BWay} (hD : Small D) (h : BestS D t lo hi S f) (hw : Way D t lo i b.2 b.1) (hb : ∀ l c, Way D t lo i l c → bleq b (c, l))
    (h0 : lo < p0) (hS : ∀ q p c, S' q p c ↔ S q p c ∨ (q = i ∧ p = p0 ∧ c = c0)) :
    BestS D t lo hi S' (fun p => if p = p0 then some (stepW b c0 p0 (f p0)) else f p) := by
  intro p h1 h2
  by_cases e : p = p0
  · subst e
    simp only [if_true]
    obtain ⟨s1, s2, s3⟩ := stepW_le b c0 p (f p)
    refine ⟨?_, fun b' hb' => ?_⟩
    · rcases s3 with s3 | s3
      · rw [s3]; exact .inr ⟨i, _, _, c0, hw, (hS _ _ _).2 (.inr ⟨rfl, rfl, rfl⟩), rfl⟩
      · have := h p h1 h2
        rw [← s3] at this
        exact this.1.congr fun q c hq => (hS q p c).2 (.inl hq)
    · rcases hb' with ⟨rfl, _⟩ | ⟨q, l, c, c', k1, k2, rfl⟩
      · omega
      · rcases (hS _ _ _).1 k2 with k2 | ⟨rfl, _, rfl⟩
        · have hold : WayS D t lo S p (c + c', l ++ [p]) := .inr ⟨q, l, c, c', k1, k2, rfl⟩
          have hp := h p h1 h2
          cases ef : f p with
          | none => rw [ef] at hp; exact absurd hold (hp _)
          | some o =>
            rw [ef] at hp
            exact bleq_trans (by rw [← ef]; exact s2 o ef) (hp.2 _ hold)
        · exact bleq_trans s1 (bleq_snoc (k := c') (p := p) hD hw k1 (hb l c k1))
  · simp only [if_neg e]
    exact (h p h1 h2).congr fun q c => by rw [hS]; constructor; exact .inl; rintro (h | ⟨_, h, _⟩); exact h; exact absurd h e

/-- all steps from places ahead of i. -/
def Sat (D : Dic) (t : ByteArray) (i : Nat) (q p c : Nat) : Prop := Step D t q p c ∧ q < i
/-- and those from i up to the end of its cluster, and with the first k words. -/
def SK (D : Dic) (t : ByteArray) (i k : Nat) (q p c : Nat) : Prop := (Step D t q p c ∧ q < i) ∨ (q = i ∧ StepC t q p c) ∨ (q = i ∧ ∃ k', k' < k ∧ StepK D t k' q p c)

theorem SK.step {D : Dic} {t : ByteArray} {i k q p c : Nat} (h : SK D t i k q p c) : Step D t q p c := by
  rcases h with h | ⟨_, h⟩ | ⟨_, k', _, h⟩
  · exact h.1
  · exact .inl h
  · exact .inr ⟨k', h⟩

theorem SK_all {D : Dic} {t : ByteArray} {i : Nat} (q p c : Nat) : SK D t i D.length q p c ↔ Sat D t (i + 1) q p c := by
  constructor
  · rintro h
    refine ⟨h.step, ?_⟩
    rcases h with h | h | h <;> omega
  · rintro ⟨h1, h2⟩
    by_cases e : q = i
    · rcases h1 with h1 | ⟨k, h1⟩
      · exact .inr (.inl ⟨e, h1⟩)
      · exact .inr (.inr ⟨e, k, h1.1, h1⟩)
    · exact .inl ⟨h1, by omega⟩

theorem SK_no {D : Dic} {t : ByteArray} {i k : Nat} (h : ¬ Stands t i (wd D k)) (q p c : Nat) : SK D t i k q p c ↔ SK D t i (k + 1) q p c := by
  constructor
  · rintro (h1 | h1 | ⟨h1, k', h2, h3⟩)
    · exact .inl h1
    · exact .inr (.inl h1)
    · exact .inr (.inr ⟨h1, k', by omega, h3⟩)
  · rintro (h1 | h1 | ⟨h1, k', h2, h3⟩)
    · exact .inl h1
    · exact .inr (.inl h1)
    · by_cases e : k' = k
      · subst e; subst h1; exact absurd h3.2.1 h
      · exact .inr (.inr ⟨h1, k', by omega, h3⟩)

theorem SK_yes {D : Dic} {t : ByteArray} {i k : Nat} (hk : k < D.length) (h : Stands t i (wd D k)) (q p c : Nat) : SK D t i (k + 1) q p c ↔ SK D t i k q p c ∨ (q = i ∧ p = i + (wd D k).size ∧ c = ct D k) := by
  constructor
  · rintro (h1 | h1 | ⟨h1, k', h2, h3⟩)
    · exact .inl (.inl h1)
    · exact .inl (.inr (.inl h1))
    · by_cases e : k' = k
      · subst e; subst h1; exact .inr ⟨rfl, h3.2.2⟩
      · exact .inl (.inr (.inr ⟨h1, k', by omega, h3⟩))
  · rintro ((h1 | h1 | ⟨h1, k', h2, h3⟩) | ⟨rfl, rfl, rfl⟩)
    · exact .inl h1
    · exact .inr (.inl h1)
    · exact .inr (.inr ⟨h1, k', by omega, h3⟩)
    · exact .inr (.inr ⟨rfl, k, by omega, hk, h, rfl, rfl⟩)

theorem SK_zero {D : Dic} {t : ByteArray} {i n : Nat} (h : StepC t i n 500) (q p c : Nat) : SK D t i 0 q p c ↔ Sat D t i q p c ∨ (q = i ∧ p = n ∧ c = 500) := by
  constructor
  · rintro (h1 | ⟨rfl, h1⟩ | ⟨h1, k', h2, h3⟩)
    · exact .inl h1
    · refine .inr ⟨rfl, ?_, h1.2.2.2.2.2⟩
      obtain ⟨_, a1, _, a3, a4, _⟩ := h1
      obtain ⟨_, b1, _, b3, b4, _⟩ := h
      by_cases e1 : p < n
      · exact absurd a3 (b4 p a1 e1)
      · by_cases e2 : n < p
        · exact absurd b3 (a4 n b1 e2)
        · omega
    · omega
  · rintro (h1 | ⟨rfl, rfl, rfl⟩)
    · exact .inl h1
    · exact .inr (.inl ⟨rfl, h⟩)

theorem Sat_skip {D : Dic} {t : ByteArray} {i : Nat} (h : ¬ Edge t i) (q p c : Nat) : Sat D t i q p c ↔ Sat D t (i + 1) q p c := by
  constructor
  · rintro ⟨h1, h2⟩; exact ⟨h1, by omega⟩
  · rintro ⟨h1, h2⟩
    refine ⟨h1, ?_⟩
    by_cases e : q = i
    · subst e
      rcases h1 with h1 | ⟨k, _, h1, _⟩
      · exact absurd h1.1 h
      · exact absurd h1.1 h
    · omega

/-- what is known of a place when all steps that begin ahead of it are: all. -/
theorem BestAt.all {D : Dic} {t : ByteArray} {lo i : Nat} {b : BWay} (hD : Small D) (h : BestAt D t lo (Sat D t i) i (some b)) : Way D t lo i b.2 b.1 ∧ ∀ l c, Way D t lo i l c → bleq b (c, l) := by
  refine ⟨h.1.way fun q p c hq => hq.1, fun l c hw => h.2 _ ?_⟩
  cases hw with
  | nil => exact .inl ⟨rfl, rfl⟩
  | snoc h1 h2 => exact .inr ⟨_, _, _, _, h1, ⟨h2, (h2.lt hD).1⟩, rfl⟩

theorem frst_ge {t : ByteArray} {j : Nat} (hj : Edge t j) : ∀ {i : Nat}, j ≤ i → j ≤ frst t i
  | 0, h => by simp [frst]; omega
  | i + 1, h => by
    simp only [frst]
    split
    · exact h
    · rename_i hn
      by_cases e : j = i + 1
      · subst e; exact absurd hj hn
      · exact frst_ge hj (by omega)

/-- from an edge to a later one there is a way. -/
theorem way_exists {D : Dic} {t : ByteArray} {lo : Nat} (hlo : Edge t lo) : ∀ (n p : Nat), p ≤ n → lo ≤ p → p ≤ t.size → Edge t p → ∃ l c, Way D t lo p l c
  | 0, p, h1, h2, _, _ => by
    obtain rfl : p = lo := by omega
    exact ⟨[], 0, .nil⟩
  | n + 1, p, h1, h2, h3, h4 => by
    by_cases e : p = lo
    · subst e; exact ⟨[], 0, .nil⟩
    · have hq := frst_le t (p - 1)
      have hg := frst_ge hlo (i := p - 1) (by omega)
      obtain ⟨l, c, hw⟩ := way_exists hlo n (frst t (p - 1)) (by omega) hg (by omega) (frst_is t (p - 1))
      refine ⟨_, _, .snoc hw (.inl ⟨frst_is t (p - 1), by omega, h3, h4, fun j a b hj => ?_, rfl⟩)⟩
      have := frst_ge hj (i := p - 1) (by omega)
      omega

/-- P9: the pieces of a run of small letters. -/
def IsBest (D : Dic) (t : ByteArray) (lo hi : Nat) (l : List Nat) : Prop := ∃ c, Way D t lo hi l c ∧ ∀ l' c', Way D t lo hi l' c' → bleq (c, l) (c', l')

theorem IsBest.unique {D : Dic} {t : ByteArray} {lo hi : Nat} {l l' : List Nat} (h : IsBest D t lo hi l) (h' : IsBest D t lo hi l') : l = l' := by
  obtain ⟨c, h1, h2⟩ := h
  obtain ⟨c', k1, k2⟩ := h'
  have := bleq_antisymm (h2 _ _ k1) (k2 _ _ h1)
  exact congrArg Prod.snd this

end Go.Proofs.YtlfpepehngkehabDoor
/-
  Plain mathematics: runs, and how a text is cut.
-/
namespace Go.Proofs.YtlfpepehngkehabDoor
set_option linter.unusedSimpArgs false
set_option linter.unusedVariables false

/-- a run ends at i. -/
def IsEnd (t : ByteArray) (i : Nat) : Prop := i = t.size ∨ Parts t i
instance (t : ByteArray) (i : Nat) : Decidable (IsEnd t i) := inferInstanceAs (Decidable (_ ∨ _))

theorem IsEnd.edge {t : ByteArray} {i : Nat} (h : IsEnd t i) : Edge t i := by
  rcases h with rfl | h
  · exact edge_end t
  · exact h.1

def RunAt (t : ByteArray) (lo hi : Nat) : Prop := lo < hi ∧ hi ≤ t.size ∧ (lo = 0 ∨ IsEnd t lo) ∧ IsEnd t hi ∧ ∀ j, lo < j → j < hi → ¬ IsEnd t j

theorem RunAt.edges {t : ByteArray} {lo hi : Nat} (h : RunAt t lo hi) : Edge t lo ∧ Edge t hi := by
  obtain ⟨_, _, h3, h4, _⟩ := h
  refine ⟨?_, h4.edge⟩
  rcases h3 with rfl | h3
  · exact edge_zero t
  · exact h3.edge

theorem RunAt.unique {t : ByteArray} {lo lo' hi : Nat} (h : RunAt t lo hi) (h' : RunAt t lo' hi) : lo = lo' := by
  obtain ⟨a1, _, a3, _, a5⟩ := h
  obtain ⟨b1, _, b3, _, b5⟩ := h'
  rcases Nat.lt_trichotomy lo lo' with e | e | e
  · rcases b3 with rfl | b3
    · omega
    · exact absurd b3 (a5 lo' e b1)
  · exact e
  · rcases a3 with rfl | a3
    · omega
    · exact absurd a3 (b5 lo e a1)

/-- the pieces of a run of capitals, from i on. -/
inductive AheadRun (D : Dic) (t : ByteArray) (hi : Nat) : Nat → List Nat → Prop
  | done : AheadRun D t hi hi []
  | step {i e : Nat} {l : List Nat} : i < hi → AheadOk D t i hi e → AheadRun D t hi e l → AheadRun D t hi i (e :: l)

theorem AheadRun.unique {D : Dic} {t : ByteArray} {hi : Nat} : ∀ {i : Nat} {l l' : List Nat}, AheadRun D t hi i l → AheadRun D t hi i l' → l = l' := by
  intro i l l' h
  induction h generalizing l' with
  | done =>
    intro h'
    cases h' with
    | done => rfl
    | step h1 _ _ => omega
  | step h1 h2 h3 ih =>
    intro h'
    cases h' with
    | done => omega
    | step k1 k2 k3 =>
      obtain rfl := h2.unique k2
      rw [ih k3]

def RunCut (D : Dic) (t : ByteArray) (lo hi : Nat) (l : List Nat) : Prop :=
  (sortC (bt t lo) = 115 ∧ IsBest D t lo hi l) ∨ (sortC (bt t lo) = 99 ∧ AheadRun D t hi lo l) ∨ (sortC (bt t lo) ≠ 115 ∧ sortC (bt t lo) ≠ 99 ∧ l = [hi])

theorem RunCut.unique {D : Dic} {t : ByteArray} {lo hi : Nat} {l l' : List Nat} (h : RunCut D t lo hi l) (h' : RunCut D t lo hi l') : l = l' := by
  rcases h with ⟨a, h⟩ | ⟨a, h⟩ | ⟨a, b, h⟩
  all_goals rcases h' with ⟨a', h'⟩ | ⟨a', h'⟩ | ⟨a', b', h'⟩
  all_goals first
    | omega
    | exact h.unique h'
    | (rw [h, h'])

/-- the boundaries of a text up to the end of a run. -/
inductive CutTo (D : Dic) (t : ByteArray) : Nat → List Nat → Prop
  | zero : CutTo D t 0 [0]
  | run {lo hi : Nat} {l l1 : List Nat} : CutTo D t lo l → RunAt t lo hi → RunCut D t lo hi l1 → CutTo D t hi (l ++ l1)

theorem CutTo.unique {D : Dic} {t : ByteArray} {p : Nat} {l l' : List Nat} (h : CutTo D t p l) (h' : CutTo D t p l') : l = l' := by
  induction h generalizing l' with
  | zero =>
    cases h' with
    | zero => rfl
    | run _ h2 _ => have := h2.1; omega
  | run h1 h2 h3 ih =>
    cases h' with
    | zero => have := h2.1; omega
    | run k1 k2 k3 =>
      obtain rfl := h2.unique k2
      rw [ih k1, h3.unique k3]

theorem GoodDic.small {D : Dic} (h : GoodDic D) : Small D := ⟨h.1, fun p hp => by
  obtain ⟨h1, h2⟩ := h.2.2 p hp
  exact ⟨h1.1, h1.2.1, h2⟩⟩

/-- a word that stands within a run does not leave it. -/
theorem stands_run {t x : ByteArray} {i hi : Nat} (hx : IsWord x) (hs : Stands t i x) (hi' : i < hi) (he : IsEnd t hi) : i + x.size ≤ hi := by
  obtain ⟨x1, x2, _, x4, x5⟩ := hx
  obtain ⟨s1, s2, s3, s4⟩ := hs
  by_cases hle : i + x.size ≤ hi
  · exact hle
  · exfalso
    rcases he with rfl | ⟨e1, e2⟩
    · omega
    have hbt : ∀ j, j < x.size → bt x j = bt t (i + j) := fun j hj => by
      rw [← s3]
      exact bt_extract t i (i + x.size) j (by rw [s3] at *; omega) (by omega)
    have hsort : ∀ p, i ≤ p → p < i + x.size → (p = i ∨ bt t p ≠ 126) → sortC (bt t p) = sortC (bt t i) ∧ sortC (bt t p) ≠ 111 := fun p h1 h2 h3 => by
      obtain ⟨j, rfl⟩ : ∃ j, p = i + j := ⟨p - i, by omega⟩
      have h0 := hbt 0 (by omega)
      rw [Nat.add_zero] at h0
      rw [← h0]
      by_cases hj : j = 0
      · subst hj
        rw [Nat.add_zero, ← h0]
        refine ⟨rfl, ?_⟩
        rcases x4 with x4 | x4
        · rw [sortC_s.2 (srt_1.1 x4)]; omega
        · rw [sortC_c.2 (srt_2.1 x4)]; omega
      · have hb := hbt j (by omega)
        rw [← hb]
        rw [← hb] at h3
        have h5 := x5 j (by omega) (by omega)
        have h4 : srt (bt x j) = srt (bt x 0) := by
          rcases h5 with h5 | h5
          · exact h5
          · rw [srt_4] at h5; omega
        rcases x4 with x4 | x4
        · rw [sortC_s.2 (srt_1.1 x4), sortC_s.2 (srt_1.1 (h4.trans x4))]; omega
        · rw [sortC_c.2 (srt_2.1 x4), sortC_c.2 (srt_2.1 (h4.trans x4))]; omega
    have hh : bt t hi ≠ 126 := by
      rcases e1 with e1 | e1 | e1
      · omega
      · omega
      · exact e1
    have hf1 := frst_le t (hi - 1)
    have hf2 := frst_ge s1 (i := hi - 1) (by omega)
    have hf3 := frst_is t (hi - 1)
    have a1 := hsort (frst t (hi - 1)) hf2 (by omega) (by
      rcases hf3 with h | h | h
      · left; omega
      · omega
      · exact .inr h)
    have a2 := hsort hi (by omega) (by omega) (.inr hh)
    unfold sortAt at e2
    rcases e2 with e2 | e2
    · exact e2 (a1.1.trans a2.1.symm)
    · exact a1.2 e2

theorem AheadOk.lt {D : Dic} {t : ByteArray} {i hi e : Nat} (hD : GoodDic D) (hi' : i < hi) (he : IsEnd t hi) (h : AheadOk D t i hi e) : i < e ∧ e ≤ hi := by
  rcases h with ⟨⟨k, hk, hs, rfl⟩, _⟩ | ⟨_, h1, h2, _⟩
  · have := hD.small.at hk
    have hw : IsWord (wd D k) := by rw [wd_eq hk]; exact (hD.2.2 _ (List.getElem_mem hk)).1
    have := stands_run hw hs hi' he
    omega
  · exact ⟨h1, h2⟩

theorem AheadRun.len {D : Dic} {t : ByteArray} {hi : Nat} (hD : GoodDic D) (he : IsEnd t hi) {i : Nat} {l : List Nat} (h : AheadRun D t hi i l) : l.length + i ≤ hi := by
  induction h with
  | done => simp
  | step h1 h2 _ ih =>
    have := h2.lt hD h1 he
    simp
    omega

theorem RunCut.len {D : Dic} {t : ByteArray} {lo hi : Nat} {l : List Nat} (hD : GoodDic D) (hr : RunAt t lo hi) (h : RunCut D t lo hi l) : l.length + lo ≤ hi := by
  rcases h with ⟨_, c, h, _⟩ | ⟨_, h⟩ | ⟨_, _, rfl⟩
  · exact (h.facts hD.small).1
  · exact h.len hD hr.2.2.2.1
  · have := hr.1
    simp
    omega

theorem CutTo.len {D : Dic} {t : ByteArray} {p : Nat} {l : List Nat} (hD : GoodDic D) (h : CutTo D t p l) : l.length ≤ p + 1 := by
  induction h with
  | zero => simp
  | run h1 h2 h3 ih =>
    have := h3.len hD h2
    have := h2.1
    simp
    omega

end Go.Proofs.YtlfpepehngkehabDoor
/-
  Plain mathematics: boundaries, and walks over them.
-/
namespace Go.Proofs.YtlfpepehngkehabDoor
set_option linter.unusedSimpArgs false
set_option linter.unusedVariables false

/-- boundaries of a text of n bytes. -/
structure Bounds (l : List Nat) (n : Nat) : Prop where
  srt : l.Pairwise (· < ·)
  zero : 0 ∈ l
  last : n ∈ l
  le : ∀ x ∈ l, x ≤ n

theorem AheadRun.facts {D : Dic} {t : ByteArray} {hi : Nat} (hD : GoodDic D) (he : IsEnd t hi) {i : Nat} {l : List Nat} (h : AheadRun D t hi i l) : l.Pairwise (· < ·) ∧ (∀ x ∈ l, i < x ∧ x ≤ hi) ∧ ((l = [] ∧ i = hi) ∨ hi ∈ l) := by
  induction h with
  | done => exact ⟨List.Pairwise.nil, fun x hx => by simp at hx, .inl ⟨rfl, rfl⟩⟩
  | step h1 h2 h3 ih =>
    obtain ⟨a1, a2, a3⟩ := ih
    have hl := h2.lt hD h1 he
    refine ⟨List.pairwise_cons.2 ⟨fun x hx => (a2 x hx).1, a1⟩, fun x hx => ?_, .inr ?_⟩
    · rcases List.mem_cons.1 hx with rfl | hx
      · exact hl
      · have := a2 x hx; omega
    · rcases a3 with ⟨_, rfl⟩ | a3
      · simp
      · exact List.mem_cons_of_mem _ a3

theorem RunCut.facts {D : Dic} {t : ByteArray} {lo hi : Nat} {l : List Nat} (hD : GoodDic D) (hr : RunAt t lo hi) (h : RunCut D t lo hi l) : l.Pairwise (· < ·) ∧ (∀ x ∈ l, lo < x ∧ x ≤ hi) ∧ hi ∈ l := by
  have hlt := hr.1
  rcases h with ⟨_, c, h, _⟩ | ⟨_, h⟩ | ⟨_, _, rfl⟩
  · obtain ⟨_, _, h3, h4, h5⟩ := h.facts hD.small
    refine ⟨h3, h4, ?_⟩
    rcases h5 with ⟨_, rfl⟩ | h5
    · omega
    · exact h5
  · obtain ⟨h3, h4, h5⟩ := h.facts hD hr.2.2.2.1
    refine ⟨h3, h4, ?_⟩
    rcases h5 with ⟨_, rfl⟩ | h5
    · omega
    · exact h5
  · exact ⟨by simp, fun x hx => by simp at hx; omega, by simp⟩

theorem CutTo.bounds {D : Dic} {t : ByteArray} {p : Nat} {l : List Nat} (hD : GoodDic D) (h : CutTo D t p l) : Bounds l p := by
  induction h with
  | zero => exact ⟨by simp, by simp, by simp, fun x hx => by simp at hx; omega⟩
  | run h1 h2 h3 ih =>
    obtain ⟨a1, a2, a3⟩ := h3.facts hD h2
    have hlt := h2.1
    refine ⟨?_, List.mem_append_left _ ih.zero, List.mem_append_right _ a3, fun x hx => ?_⟩
    · rw [List.pairwise_append]
      exact ⟨ih.srt, a1, fun x hx y hy => by have := ih.le x hx; have := (a2 y hy).1; omega⟩
    · rcases List.mem_append.1 hx with hx | hx
      · have := ih.le x hx; omega
      · exact (a2 x hx).2

/-- the least boundary above k, or -1. -/
def IsAbv (l : List Nat) (k r : Int) : Prop := (r = -1 ∧ ∀ x ∈ l, (x : Int) ≤ k) ∨ ∃ x ∈ l, r = (x : Int) ∧ k < (x : Int) ∧ ∀ y ∈ l, k < (y : Int) → x ≤ y
/-- the greatest boundary below k, or -1. -/
def IsBlw (l : List Nat) (k r : Int) : Prop := (r = -1 ∧ ∀ x ∈ l, k ≤ (x : Int)) ∨ ∃ x ∈ l, r = (x : Int) ∧ (x : Int) < k ∧ ∀ y ∈ l, (y : Int) < k → y ≤ x

theorem IsAbv.unique {l : List Nat} {k r r' : Int} (h : IsAbv l k r) (h' : IsAbv l k r') : r = r' := by
  rcases h with ⟨rfl, h⟩ | ⟨x, hx, rfl, h1, h2⟩
  · rcases h' with ⟨rfl, _⟩ | ⟨y, hy, rfl, k1, _⟩
    · rfl
    · have := h y hy; omega
  · rcases h' with ⟨rfl, h'⟩ | ⟨y, hy, rfl, k1, k2⟩
    · have := h' x hx; omega
    · have := h2 y hy k1
      have := k2 x hx h1
      omega

theorem IsBlw.unique {l : List Nat} {k r r' : Int} (h : IsBlw l k r) (h' : IsBlw l k r') : r = r' := by
  rcases h with ⟨rfl, h⟩ | ⟨x, hx, rfl, h1, h2⟩
  · rcases h' with ⟨rfl, _⟩ | ⟨y, hy, rfl, k1, _⟩
    · rfl
    · have := h y hy; omega
  · rcases h' with ⟨rfl, h'⟩ | ⟨y, hy, rfl, k1, k2⟩
    · have := h' x hx; omega
    · have := h2 y hy k1
      have := k2 x hx h1
      omega

theorem IsAbv.nil (k : Int) : IsAbv [] k (-1) := .inl ⟨rfl, fun x hx => by simp at hx⟩
theorem IsBlw.nil (k : Int) : IsBlw [] k (-1) := .inl ⟨rfl, fun x hx => by simp at hx⟩

theorem IsAbv.ge {l : List Nat} {k r : Int} (h : IsAbv l k r) : -1 ≤ r := by
  rcases h with ⟨rfl, _⟩ | ⟨x, _, rfl, _⟩ <;> omega
theorem IsBlw.ge {l : List Nat} {k r : Int} (h : IsBlw l k r) : -1 ≤ r := by
  rcases h with ⟨rfl, _⟩ | ⟨x, _, rfl, _⟩ <;> omega

theorem IsAbv.put {l : List Nat} {k r : Int} {x : Nat} (h : IsAbv l k r) (h1 : k < (x : Int)) (h2 : r = -1 ∨ (x : Int) < r) : IsAbv (l ++ [x]) k x := by
  refine .inr ⟨x, by simp, rfl, h1, fun y hy hk => ?_⟩
  rcases List.mem_append.1 hy with hy | hy
  · rcases h with ⟨rfl, h⟩ | ⟨z, hz, rfl, h3, h4⟩
    · have := h y hy; omega
    · have := h4 y hy hk; omega
  · simp at hy; omega

theorem IsAbv.keep {l : List Nat} {k r : Int} {x : Nat} (h : IsAbv l k r) (h1 : ¬ (k < (x : Int) ∧ (r = -1 ∨ (x : Int) < r))) : IsAbv (l ++ [x]) k r := by
  rcases h with ⟨rfl, h⟩ | ⟨z, hz, rfl, h3, h4⟩
  · refine .inl ⟨rfl, fun y hy => ?_⟩
    rcases List.mem_append.1 hy with hy | hy
    · exact h y hy
    · simp at hy; subst hy; omega
  · refine .inr ⟨z, by simp [hz], rfl, h3, fun y hy hk => ?_⟩
    rcases List.mem_append.1 hy with hy | hy
    · exact h4 y hy hk
    · simp at hy; subst hy; omega

theorem IsBlw.put {l : List Nat} {k r : Int} {x : Nat} (h : IsBlw l k r) (h1 : (x : Int) < k) (h2 : r < (x : Int)) : IsBlw (l ++ [x]) k x := by
  refine .inr ⟨x, by simp, rfl, h1, fun y hy hk => ?_⟩
  rcases List.mem_append.1 hy with hy | hy
  · rcases h with ⟨rfl, h⟩ | ⟨z, hz, rfl, h3, h4⟩
    · have := h y hy; omega
    · have := h4 y hy hk; omega
  · simp at hy; omega

theorem IsBlw.keep {l : List Nat} {k r : Int} {x : Nat} (h : IsBlw l k r) (h1 : ¬ ((x : Int) < k ∧ r < (x : Int))) : IsBlw (l ++ [x]) k r := by
  rcases h with ⟨rfl, h⟩ | ⟨z, hz, rfl, h3, h4⟩
  · refine .inl ⟨rfl, fun y hy => ?_⟩
    rcases List.mem_append.1 hy with hy | hy
    · exact h y hy
    · simp at hy; subst hy; omega
  · refine .inr ⟨z, by simp [hz], rfl, h3, fun y hy hk => ?_⟩
    rcases List.mem_append.1 hy with hy | hy
    · exact h4 y hy hk
    · simp at hy; subst hy; omega

/-- the kind of a piece. -/
noncomputable def kd (D : Dic) (t : ByteArray) (f a : Nat) : Int :=
  open Classical in
  if sortC (bt t f) = 100 then 1 else if sortC (bt t f) = 98 then 2 else if sortC (bt t f) = 111 then 0 else if ∃ p ∈ D, p.1 = t.extract f a then 3 else 4

def KindIs (D : Dic) (t : ByteArray) (l : List Nat) (a : Nat) (r : Int) : Prop := (a = 0 ∧ r = 0) ∨ (0 < a ∧ ∃ f : Nat, IsBlw l a f ∧ r = kd D t f a)

theorem KindIs.unique {D : Dic} {t : ByteArray} {l : List Nat} {a : Nat} {r r' : Int} (h : KindIs D t l a r) (h' : KindIs D t l a r') : r = r' := by
  rcases h with ⟨h1, rfl⟩ | ⟨h1, f, h2, rfl⟩
  · rcases h' with ⟨_, rfl⟩ | ⟨h1', _⟩
    · rfl
    · omega
  · rcases h' with ⟨h1', _⟩ | ⟨_, f', h2', rfl⟩
    · omega
    · have := h2.unique h2'
      obtain rfl : f = f' := by omega
      rfl

/-- where a call wants to go: -1 is nowhere. -/
def WantsTo (l : List Nat) (n a : Nat) (kind k r : Int) : Prop :=
  if kind = 1 then r = 0 else if kind = 2 then r = n else if kind = 3 then IsAbv l a r else if kind = 4 then IsBlw l a r else if kind = 5 then IsAbv l k r else if kind = 6 then IsBlw l k r
  else if kind = 7 then (if 0 < k then IsAbv l (k - 1) r else if k = 0 then r = 0 else IsAbv l k r) else r = a

/-- where the walk is then. -/
def goesTo (n a : Nat) (kind r : Int) : Int := if 0 ≤ r then r else if kind = 5 ∨ kind = 7 then n else if kind = 6 then 0 else a

def MoveIs (D : Dic) (t : ByteArray) (l : List Nat) (a : Nat) (kind k r : Int) (a' : Nat) : Prop :=
  (kind = 8 ∧ KindIs D t l a r ∧ a' = a) ∨
  (kind ≠ 8 ∧ ∃ x, WantsTo l t.size a kind k x ∧ (a' : Int) = goesTo t.size a kind x ∧ r = if kind = 7 then (if x = k ∧ 0 ≤ k then 1 else 0) else x)

theorem WantsTo.unique {l : List Nat} {n a : Nat} {kind k r r' : Int} (h : WantsTo l n a kind k r) (h' : WantsTo l n a kind k r') : r = r' := by
  unfold WantsTo at h h'
  repeat' (split at h)
  all_goals simp_all
  all_goals first
    | exact h.unique h'
    | omega

theorem MoveIs.unique {D : Dic} {t : ByteArray} {l : List Nat} {a a1 a2 : Nat} {kind k r1 r2 : Int} (h : MoveIs D t l a kind k r1 a1) (h' : MoveIs D t l a kind k r2 a2) : r1 = r2 ∧ a1 = a2 := by
  rcases h with ⟨h1, h2, rfl⟩ | ⟨h1, x, h2, h3, rfl⟩
  · rcases h' with ⟨_, h2', rfl⟩ | ⟨h1', _⟩
    · exact ⟨h2.unique h2', rfl⟩
    · exact absurd h1 h1'
  · rcases h' with ⟨h1', _⟩ | ⟨_, x', h2', h3', rfl⟩
    · exact absurd h1' h1
    · obtain rfl := h2.unique h2'
      exact ⟨rfl, by omega⟩

theorem IsAbv.mem {l : List Nat} {k r : Int} (h : IsAbv l k r) (h0 : 0 ≤ r) : ∃ x ∈ l, r = (x : Int) := by
  rcases h with ⟨rfl, _⟩ | ⟨x, hx, rfl, _⟩
  · omega
  · exact ⟨x, hx, rfl⟩
theorem IsBlw.mem {l : List Nat} {k r : Int} (h : IsBlw l k r) (h0 : 0 ≤ r) : ∃ x ∈ l, r = (x : Int) := by
  rcases h with ⟨rfl, _⟩ | ⟨x, hx, rfl, _⟩
  · omega
  · exact ⟨x, hx, rfl⟩

end Go.Proofs.YtlfpepehngkehabDoor
/-
  Plain mathematics: where boundaries are, and where none are (P8).
-/
namespace Go.Proofs.YtlfpepehngkehabDoor
set_option linter.unusedSimpArgs false
set_option linter.unusedVariables false

theorem run_sort {t : ByteArray} {lo hi : Nat} (hr : RunAt t lo hi) : ∀ i, lo ≤ i → i < hi → sortAt t i = sortC (bt t lo) := by
  obtain ⟨h1, h2, h3, h4, h5⟩ := hr
  have he : Edge t lo := by
    rcases h3 with rfl | h3
    · exact edge_zero t
    · exact h3.edge
  intro i
  induction i with
  | zero =>
    intro a b
    obtain rfl : lo = 0 := by omega
    unfold sortAt
    rw [frst_edge he]
  | succ i ih =>
    intro a b
    by_cases e : lo = i + 1
    · subst e; unfold sortAt; rw [frst_edge he]
    · have hi' := ih (by omega) (by omega)
      by_cases hed : Edge t (i + 1)
      · have hne : ¬ IsEnd t (i + 1) := h5 (i + 1) (by omega) b
        have hs : sortAt t (i + 1) = sortC (bt t (i + 1)) := by unfold sortAt; rw [frst_edge hed]
        rw [hs, ← hi']
        by_cases e2 : sortAt t i = sortC (bt t (i + 1))
        · exact e2.symm
        · exact absurd (.inr ⟨hed, .inl e2⟩) hne
      · have := (frst_pred hed).2
        unfold sortAt at hi' ⊢
        rw [this]
        exact hi'

theorem way_edges {D : Dic} {t : ByteArray} {lo q c : Nat} {l : List Nat} (hD : Small D) (h : Way D t lo q l c) : ∀ x ∈ l, Edge t x := by
  induction h with
  | nil => intro x hx; simp at hx
  | snoc h1 h2 ih =>
    intro x hx
    rcases List.mem_append.1 hx with hx | hx
    · exact ih x hx
    · simp at hx; subst hx; exact (h2.lt hD).2.2.2.2

theorem aheadOk_edge {D : Dic} {t : ByteArray} {i hi e : Nat} (he : Edge t hi) (h : AheadOk D t i hi e) : Edge t e := by
  rcases h with ⟨⟨k, _, hs, rfl⟩, _⟩ | ⟨_, _, _, h4, _⟩
  · exact hs.2.2.2
  · rcases h4 with rfl | ⟨k, _, hs⟩
    · exact he
    · exact hs.1

theorem ahead_edges {D : Dic} {t : ByteArray} {hi i : Nat} {l : List Nat} (he : Edge t hi) (h : AheadRun D t hi i l) : ∀ x ∈ l, Edge t x := by
  induction h with
  | done => intro x hx; simp at hx
  | step h1 h2 h3 ih =>
    intro x hx
    rcases List.mem_cons.1 hx with rfl | hx
    · exact aheadOk_edge he h2
    · exact ih x hx

theorem runCut_edges {D : Dic} {t : ByteArray} {lo hi : Nat} {l : List Nat} (hD : GoodDic D) (hr : RunAt t lo hi) (h : RunCut D t lo hi l) : ∀ x ∈ l, Edge t x := by
  have he := hr.edges.2
  rcases h with ⟨_, c, h, _⟩ | ⟨_, h⟩ | ⟨_, _, rfl⟩
  · exact way_edges hD.small h
  · exact ahead_edges he h
  · intro x hx; simp at hx; subst hx; exact he

/-- no boundary parts a mark from its cluster. -/
theorem cut_edges {D : Dic} {t : ByteArray} {p : Nat} {l : List Nat} (hD : GoodDic D) (h : CutTo D t p l) : ∀ x ∈ l, Edge t x := by
  induction h with
  | zero => intro x hx; simp at hx; subst hx; exact edge_zero t
  | run h1 h2 h3 ih =>
    intro x hx
    rcases List.mem_append.1 hx with hx | hx
    · exact ih x hx
    · exact runCut_edges hD h2 h3 x hx

/-- where a run ends a boundary is. -/
theorem cut_ends {D : Dic} {t : ByteArray} {p : Nat} {l : List Nat} (hD : GoodDic D) (h : CutTo D t p l) : ∀ i, 0 < i → i ≤ p → IsEnd t i → i ∈ l := by
  induction h with
  | zero => intro i h0 h1; omega
  | @run lo hi l l1 h1 h2 h3 ih =>
    intro i h0 hi' he
    by_cases hlo : i ≤ lo
    · exact List.mem_append_left _ (ih i h0 hlo he)
    · by_cases e : i = hi
      · subst e; exact List.mem_append_right _ (h3.facts hD h2).2.2
      · exact absurd he (h2.2.2.2.2 i (by omega) (by omega))

/-- within digits, blanks and others no boundary is. -/
theorem cut_inner {D : Dic} {t : ByteArray} {p : Nat} {l : List Nat} (hD : GoodDic D) (h : CutTo D t p l) : ∀ i, 0 < i → i < p → i ∈ l → ¬ IsEnd t i → sortAt t (i - 1) = 115 ∨ sortAt t (i - 1) = 99 := by
  induction h with
  | zero => intro i h0 h1; omega
  | @run lo hi l l1 h1 h2 h3 ih =>
    intro i h0 hi' hm hne
    have hb := h1.bounds hD
    rcases List.mem_append.1 hm with hm | hm
    · have hle := hb.le i hm
      by_cases e : i = lo
      · subst e
        rcases h2.2.2.1 with h | h
        · omega
        · exact absurd h hne
      · exact ih i h0 (by omega) hm hne
    · have hf := (h3.facts hD h2).2.1 i hm
      have hs := run_sort h2 (i - 1) (by omega) (by omega)
      rw [hs]
      rcases h3 with ⟨a, _⟩ | ⟨a, _⟩ | ⟨_, _, rfl⟩
      · exact .inl a
      · exact .inr a
      · simp at hm; omega

/-- the sort of a cluster by number, as the statement has it. -/
def ksort (c : Nat) : Nat := if 97 ≤ c ∧ c ≤ 122 then 1 else if 65 ≤ c ∧ c ≤ 90 then 2 else if 48 ≤ c ∧ c ≤ 57 then 3 else if c = 32 then 4 else 0

theorem ksort_eq {c d : Nat} : ksort c = ksort d ↔ sortC c = sortC d := by
  unfold ksort sortC
  repeat' split
  all_goals omega
theorem ksort_0 {c : Nat} : ksort c = 0 ↔ sortC c = 111 := by
  unfold ksort sortC
  repeat' split
  all_goals omega
theorem ksort_34 {c : Nat} : ksort c = 3 ∨ ksort c = 4 ↔ sortC c = 100 ∨ sortC c = 98 := by
  unfold ksort sortC
  repeat' split
  all_goals omega

/-- P8, byte by byte: a boundary at an edge within the text just as it must be. -/
theorem whole_at {D : Dic} {t : ByteArray} {l : List Nat} (hD : GoodDic D) (h : CutTo D t t.size l) {i : Nat} (h0 : 0 < i) (hi : i < t.size) (he : bt t i ≠ 126) :
    (i ∉ l → ksort (bt t i) = ksort (bt t (frst t (i - 1))) ∧ ksort (bt t i) ≠ 0) ∧ (i ∈ l → ksort (bt t i) = ksort (bt t (frst t (i - 1))) → ¬ (ksort (bt t i) = 3 ∨ ksort (bt t i) = 4)) := by
  have hed : Edge t i := .inr (.inr he)
  constructor
  · intro hm
    have hne : ¬ IsEnd t i := fun k => hm (cut_ends hD h i h0 (by omega) k)
    have e1 : sortAt t (i - 1) = sortC (bt t i) := by
      by_cases e : sortAt t (i - 1) = sortC (bt t i)
      · exact e
      · exact absurd (.inr ⟨hed, .inl e⟩) hne
    have e2 : sortAt t (i - 1) ≠ 111 := fun e => hne (.inr ⟨hed, .inr e⟩)
    unfold sortAt at e1 e2
    refine ⟨ksort_eq.2 e1.symm, fun k => e2 ?_⟩
    rw [e1]
    exact ksort_0.1 k
  · intro hm hk h34
    rw [ksort_34] at h34
    rw [ksort_eq] at hk
    by_cases hend : IsEnd t i
    · rcases hend with e | ⟨_, e⟩
      · omega
      · unfold sortAt at e
        rw [← hk] at e
        rcases e with e | e
        · exact e rfl
        · omega
    · have := cut_inner hD h i h0 hi hm hend
      unfold sortAt at this
      rw [← hk] at this
      omega

end Go.Proofs.YtlfpepehngkehabDoor
/-
  Plain mathematics: what is cut of a run hangs on the run alone (P11).
-/
namespace Go.Proofs.YtlfpepehngkehabDoor
set_option linter.unusedSimpArgs false
set_option linter.unusedVariables false

theorem extract_iff {t x : ByteArray} {q : Nat} (h : q + x.size ≤ t.size) : t.extract q (q + x.size) = x ↔ ∀ j, j < x.size → bt t (q + j) = bt x j := by
  have hz : (t.extract q (q + x.size)).size = x.size := by simp; omega
  constructor
  · intro e j hj
    have := bt_extract t q (q + x.size) j (by omega) h
    rw [← this, e]
  · intro hb
    apply ByteArray.ext_getElem hz
    intro i h1 h2
    apply UInt8.toNat_inj.1
    rw [bt_get _ _ h1, bt_get _ _ h2, bt_extract _ _ _ _ (by omega) h, hb i h2]

theorem edge_mid {t : ByteArray} {i : Nat} (h0 : 0 < i) (h1 : i < t.size) : Edge t i ↔ bt t i ≠ 126 := by
  constructor
  · rintro (e | e | e)
    · omega
    · omega
    · exact e
  · exact fun h => .inr (.inr h)

/-- two texts have the same n bytes, from lo and from lo' on; clusters begin and end there. -/
structure Win (t t' : ByteArray) (lo lo' n : Nat) : Prop where
  le : lo + n ≤ t.size
  le' : lo' + n ≤ t'.size
  same : ∀ j, j < n → bt t (lo + j) = bt t' (lo' + j)
  e0 : Edge t lo
  e0' : Edge t' lo'
  e1 : Edge t (lo + n)
  e1' : Edge t' (lo' + n)

theorem Win.symm {t t' : ByteArray} {lo lo' n : Nat} (h : Win t t' lo lo' n) : Win t' t lo' lo n := ⟨h.le', h.le, fun j hj => (h.same j hj).symm, h.e0', h.e0, h.e1', h.e1⟩

theorem Win.edge {t t' : ByteArray} {lo lo' n : Nat} (h : Win t t' lo lo' n) {j : Nat} (hj : j ≤ n) : Edge t (lo + j) ↔ Edge t' (lo' + j) := by
  by_cases h0 : j = 0
  · subst h0; exact ⟨fun _ => h.e0', fun _ => h.e0⟩
  · by_cases h1 : j = n
    · subst h1; exact ⟨fun _ => h.e1', fun _ => h.e1⟩
    · have := h.le
      have := h.le'
      rw [edge_mid (by omega) (by omega), edge_mid (by omega) (by omega), h.same j (by omega)]

theorem Win.stands {t t' : ByteArray} {lo lo' n : Nat} (h : Win t t' lo lo' n) {i : Nat} {x : ByteArray} (hi : i + x.size ≤ n) : Stands t (lo + i) x → Stands t' (lo' + i) x := by
  rintro ⟨a, b, c, d⟩
  have hl := h.le
  have hl' := h.le'
  refine ⟨(h.edge (by omega)).1 a, by omega, ?_, ?_⟩
  · rw [extract_iff (by omega)]
    rw [extract_iff b] at c
    intro j hj
    rw [← c j hj, Nat.add_assoc, Nat.add_assoc, h.same (i + j) (by omega)]
  · rw [Nat.add_assoc] at d ⊢
    exact (h.edge (by omega)).1 d

theorem Win.step {D : Dic} {t t' : ByteArray} {lo lo' n : Nat} (h : Win t t' lo lo' n) {i k c : Nat} (hk : k ≤ n) (hs : Step D t (lo + i) (lo + k) c) : Step D t' (lo' + i) (lo' + k) c := by
  rcases hs with ⟨a1, a2, a3, a4, a5, a6⟩ | ⟨q, b1, b2, b3, b4⟩
  · left
    have hl' := h.le'
    refine ⟨(h.edge (by omega)).1 a1, by omega, by omega, (h.edge hk).1 a4, fun j j1 j2 hj => ?_, a6⟩
    obtain ⟨m, rfl⟩ : ∃ m, j = lo' + m := ⟨j - lo', by omega⟩
    exact a5 (lo + m) (by omega) (by omega) ((h.edge (by omega)).2 hj)
  · right
    exact ⟨q, b1, h.stands (by omega) b2, by omega, b4⟩

theorem Win.way {D : Dic} (hD : Small D) {t t' : ByteArray} {lo lo' n : Nat} (h : Win t t' lo lo' n) {p c : Nat} {l : List Nat} (hw : Way D t lo p l c) : p ≤ lo + n → ∃ r : List Nat, l = r.map (lo + ·) ∧ Way D t' lo' (lo' + (p - lo)) (r.map (lo' + ·)) c := by
  induction hw with
  | nil => intro _; exact ⟨[], rfl, by simp; exact .nil⟩
  | @snoc q p c c' l h1 h2 ih =>
    intro hp
    have hq := (h1.facts hD).1
    have hlt := (h2.lt hD).1
    obtain ⟨r, rfl, hr⟩ := ih (by omega)
    obtain ⟨i, rfl⟩ : ∃ i, q = lo + i := ⟨q - lo, by omega⟩
    obtain ⟨k, rfl⟩ : ∃ k, p = lo + k := ⟨p - lo, by omega⟩
    rw [Nat.add_sub_cancel_left] at hr ⊢
    refine ⟨r ++ [k], by simp, ?_⟩
    rw [List.map_append]
    exact .snoc hr (h.step (by omega) h2)

theorem llt_map (a : Nat) : ∀ r s : List Nat, llt (r.map (a + ·)) (s.map (a + ·)) = llt r s
  | [], [] => rfl
  | [], _ :: _ => rfl
  | _ :: _, [] => rfl
  | x :: r, y :: s => by
    simp only [List.map_cons, llt, llt_map a r s]
    have e1 : decide (a + x < a + y) = decide (x < y) := by rw [decide_eq_decide]; omega
    have e2 : decide (a + x = a + y) = decide (x = y) := by rw [decide_eq_decide]; omega
    rw [e1, e2]

theorem Win.best {D : Dic} (hD : Small D) {t t' : ByteArray} {lo lo' n : Nat} (h : Win t t' lo lo' n) {l : List Nat} (hb : IsBest D t lo (lo + n) l) : ∃ r : List Nat, l = r.map (lo + ·) ∧ IsBest D t' lo' (lo' + n) (r.map (lo' + ·)) := by
  obtain ⟨c, h1, h2⟩ := hb
  obtain ⟨r, rfl, hr⟩ := h.way hD h1 (Nat.le_refl _)
  rw [Nat.add_sub_cancel_left] at hr
  refine ⟨r, rfl, c, hr, fun l' c' hw => ?_⟩
  obtain ⟨r', rfl, hr'⟩ := h.symm.way hD hw (Nat.le_refl _)
  rw [Nat.add_sub_cancel_left] at hr'
  rcases h2 _ _ hr' with k | ⟨k1, k2⟩
  · exact .inl k
  · refine .inr ⟨k1, ?_⟩
    simp only at k2 ⊢
    rw [llt_map] at k2 ⊢
    exact k2

/-! capitals -/
theorem Win.any {D : Dic} (hD : GoodDic D) {t t' : ByteArray} {lo lo' n : Nat} (h : Win t t' lo lo' n) (he : IsEnd t (lo + n)) {i : Nat} (hi : i < n) : AnyAt D t (lo + i) → AnyAt D t' (lo' + i) := by
  rintro ⟨k, hk, hs⟩
  have hw : IsWord (wd D k) := by rw [wd_eq hk]; exact (hD.2.2 _ (List.getElem_mem hk)).1
  have := stands_run hw hs (by omega) he
  exact ⟨k, hk, h.stands (by omega) hs⟩

theorem Win.rowTo {D : Dic} (hD : GoodDic D) {t t' : ByteArray} {lo lo' n : Nat} (h : Win t t' lo lo' n) (he : IsEnd t (lo + n)) (he' : IsEnd t' (lo' + n)) {f f' : Nat → Nat} (hf : ∀ i, i ≤ n → ∃ k, f (lo + i) = lo + k ∧ f' (lo' + i) = lo' + k) {i : Nat} (hi : i < n) :
    ∀ j, j ≤ D.length → ∃ k, Go.Proofs.YtlfpepehngkehabDoor.rowTo f D t (lo + i) j = lo + k ∧ Go.Proofs.YtlfpepehngkehabDoor.rowTo f' D t' (lo' + i) j = lo' + k
  | 0, _ => ⟨i, rfl, rfl⟩
  | j + 1, hj => by
    obtain ⟨k, h1, h2⟩ := h.rowTo hD he he' hf hi j (by omega)
    have hw : IsWord (wd D j) := by rw [wd_eq (show j < D.length by omega)]; exact (hD.2.2 _ (List.getElem_mem _)).1
    simp only [Go.Proofs.YtlfpepehngkehabDoor.rowTo]
    by_cases hs : Stands t (lo + i) (wd D j)
    · have hb := stands_run hw hs (by omega) he
      have hs' := h.stands (by omega) hs
      rw [if_pos hs, if_pos hs', h1, h2]
      obtain ⟨k', e1, e2⟩ := hf (i + (wd D j).size) (by omega)
      rw [Nat.add_assoc, Nat.add_assoc, e1, e2]
      exact ⟨max k k', by omega, by omega⟩
    · have hs' : ¬ Stands t' (lo' + i) (wd D j) := fun hs' => hs (h.symm.stands (by have := stands_run hw hs' (by omega) he'; omega) hs')
      rw [if_neg hs, if_neg hs']
      exact ⟨k, h1, h2⟩

theorem Win.rch {D : Dic} (hD : GoodDic D) {t t' : ByteArray} {lo lo' n : Nat} (h : Win t t' lo lo' n) (he : IsEnd t (lo + n)) (he' : IsEnd t' (lo' + n)) : ∀ (m i : Nat), i ≤ n → ∃ k, Go.Proofs.YtlfpepehngkehabDoor.rch D t (lo + n) m (lo + i) = lo + k ∧ Go.Proofs.YtlfpepehngkehabDoor.rch D t' (lo' + n) m (lo' + i) = lo' + k
  | 0, i, _ => ⟨i, rfl, rfl⟩
  | m + 1, i, hi => by
    simp only [Go.Proofs.YtlfpepehngkehabDoor.rch]
    by_cases hlt : i < n
    · rw [if_pos (by omega), if_pos (by omega)]
      exact h.rowTo hD he he' (fun i hi => h.rch hD he he' m i hi) hlt D.length (Nat.le_refl _)
    · rw [if_neg (by omega), if_neg (by omega)]
      exact ⟨i, rfl, rfl⟩

theorem Win.bestAhead {D : Dic} (hD : GoodDic D) {t t' : ByteArray} {lo lo' n : Nat} (h : Win t t' lo lo' n) (he : IsEnd t (lo + n)) (he' : IsEnd t' (lo' + n)) {i k : Nat} (hi : i < n) (hb : BestAhead D t (lo + i) (lo + n) D.length (lo + k)) : BestAhead D t' (lo' + i) (lo' + n) D.length (lo' + k) := by
  obtain ⟨⟨q, hq, hs, e⟩, hmax⟩ := hb
  have hw : ∀ q, q < D.length → IsWord (wd D q) := fun q hq => by rw [wd_eq hq]; exact (hD.2.2 _ (List.getElem_mem hq)).1
  have hb := stands_run (hw q hq) hs (by omega) he
  refine ⟨⟨q, hq, h.stands (by omega) hs, by omega⟩, fun q' hq' hs' => ?_⟩
  have hb' := stands_run (hw q' hq') hs' (by omega) he'
  have hs2 := h.symm.stands (by omega) hs'
  have hm := hmax q' hq' hs2
  obtain ⟨k1, a1, a2⟩ := h.rch hD he he' 2 (i + (wd D q').size) (by omega)
  obtain ⟨k2, b1, b2⟩ := h.rch hD he he' 2 k (by omega)
  rw [Nat.add_assoc] at hm ⊢
  rw [a1, b1] at hm
  rw [a2, b2]
  omega

theorem Win.aheadOk {D : Dic} (hD : GoodDic D) {t t' : ByteArray} {lo lo' n : Nat} (h : Win t t' lo lo' n) (he : IsEnd t (lo + n)) (he' : IsEnd t' (lo' + n)) {i e : Nat} (hi : i < n) (ha : AheadOk D t (lo + i) (lo + n) e) : ∃ k, e = lo + k ∧ k ≤ n ∧ i < k ∧ AheadOk D t' (lo' + i) (lo' + n) (lo' + k) := by
  have hb := ha.lt hD (by omega) he
  obtain ⟨k, rfl⟩ : ∃ k, e = lo + k := ⟨e - lo, by omega⟩
  refine ⟨k, rfl, by omega, by omega, ?_⟩
  rcases ha with ha | ⟨h1, h2, h3, h4, h5⟩
  · exact .inl (h.bestAhead hD he he' hi ha)
  · refine .inr ⟨fun x => h1 (h.symm.any hD he' hi x), by omega, by omega, ?_, fun j j1 j2 hj => ?_⟩
    · rcases h4 with h4 | h4
      · exact .inl (by omega)
      · by_cases hk : k < n
        · exact .inr (h.any hD he hk h4)
        · exact .inl (by omega)
    · obtain ⟨m, rfl⟩ : ∃ m, j = lo' + m := ⟨j - lo', by omega⟩
      exact h5 (lo + m) (by omega) (by omega) (h.symm.any hD he' (by omega) hj)

theorem Win.aheadRun {D : Dic} (hD : GoodDic D) {t t' : ByteArray} {lo lo' n : Nat} (h : Win t t' lo lo' n) (he : IsEnd t (lo + n)) (he' : IsEnd t' (lo' + n)) {p : Nat} {l : List Nat} (hr : AheadRun D t (lo + n) p l) : ∀ i, p = lo + i → i ≤ n → ∃ r : List Nat, l = r.map (lo + ·) ∧ AheadRun D t' (lo' + n) (lo' + i) (r.map (lo' + ·)) := by
  induction hr with
  | done =>
    intro i hp _
    obtain rfl : i = n := by omega
    exact ⟨[], rfl, .done⟩
  | step h1 h2 h3 ih =>
    intro i hp hi
    subst hp
    obtain ⟨k, rfl, hk, hik, ha⟩ := h.aheadOk hD he he' (by omega) h2
    obtain ⟨r, rfl, hr⟩ := ih k rfl hk
    exact ⟨k :: r, rfl, .step (by omega) ha hr⟩

/-- P11. -/
theorem Win.runCut {D : Dic} (hD : GoodDic D) {t t' : ByteArray} {lo lo' n : Nat} (hn : 0 < n) (h : Win t t' lo lo' n) (he : IsEnd t (lo + n)) (he' : IsEnd t' (lo' + n)) {l : List Nat} (hr : RunCut D t lo (lo + n) l) : ∃ r : List Nat, l = r.map (lo + ·) ∧ RunCut D t' lo' (lo' + n) (r.map (lo' + ·)) := by
  have hb : bt t lo = bt t' lo' := by have := h.same 0 hn; simpa using this
  unfold RunCut at hr ⊢
  rw [hb] at hr
  rcases hr with ⟨a, hr⟩ | ⟨a, hr⟩ | ⟨a, b, hr⟩
  · obtain ⟨r, e, hr⟩ := h.best hD.small hr
    exact ⟨r, e, .inl ⟨a, hr⟩⟩
  · obtain ⟨r, e, hr⟩ := h.aheadRun hD he he' hr 0 rfl (Nat.zero_le _)
    exact ⟨r, e, .inr (.inl ⟨a, hr⟩)⟩
  · exact ⟨[n], by rw [hr]; rfl, .inr (.inr ⟨a, b, rfl⟩)⟩

end Go.Proofs.YtlfpepehngkehabDoor
/-
  Plain mathematics: two texts with a dot between are cut as each by itself.
-/
namespace Go.Proofs.YtlfpepehngkehabDoor
set_option linter.unusedSimpArgs false
set_option linter.unusedVariables false

def dot : ByteArray := ⟨#[46]⟩

theorem bt_app (a b : ByteArray) (i : Nat) : bt (a ++ b) i = if i < a.size then bt a i else bt b (i - a.size) := by
  have ha : a.data.toList.length = a.size := by rw [Array.length_toList]; rfl
  unfold bt
  rw [ByteArray.data_append, Array.toList_append]
  simp only [List.getD_eq_getElem?_getD]
  split
  · rw [List.getElem?_append_left (by omega)]
  · rw [List.getElem?_append_right (by omega), ha]

/-- a text z is a, a dot, and b. -/
structure Dotted (z a b : ByteArray) : Prop where
  size : z.size = a.size + 1 + b.size
  left : ∀ i, i < a.size → bt z i = bt a i
  mid : bt z a.size = 46
  right : ∀ i, i < b.size → bt z (a.size + 1 + i) = bt b i
  nomark : 0 < b.size → bt b 0 ≠ 126

theorem dotted_of {a b : ByteArray} (h : 0 < b.size → bt b 0 ≠ 126) : Dotted (a ++ dot ++ b) a b := by
  have hd : dot.size = 1 := rfl
  have hs : (a ++ dot).size = a.size + 1 := by rw [ByteArray.size_append, hd]
  refine ⟨by rw [ByteArray.size_append, hs], fun i hi => ?_, ?_, fun i hi => ?_, h⟩
  · rw [bt_app, if_pos (by omega), bt_app, if_pos hi]
  · rw [bt_app, if_pos (by omega), bt_app, if_neg (by omega), Nat.sub_self]; rfl
  · rw [bt_app, if_neg (by omega), hs, Nat.add_sub_cancel_left]

theorem Dotted.edgeL {z a b : ByteArray} (h : Dotted z a b) {i : Nat} (hi : i ≤ a.size) : Edge z i ↔ Edge a i := by
  have hs := h.size
  by_cases h0 : i = 0
  · subst h0; exact ⟨fun _ => edge_zero _, fun _ => edge_zero _⟩
  · by_cases h1 : i = a.size
    · subst h1
      exact ⟨fun _ => edge_end _, fun _ => .inr (.inr (by rw [h.mid]; omega))⟩
    · rw [edge_mid (by omega) (by omega), edge_mid (by omega) (by omega), h.left i (by omega)]

theorem Dotted.frstL {z a b : ByteArray} (h : Dotted z a b) : ∀ i, i ≤ a.size → frst z i = frst a i
  | 0, _ => rfl
  | i + 1, hi => by
    have ih := h.frstL i (by omega)
    simp only [frst]
    by_cases he : Edge a (i + 1)
    · rw [if_pos he, if_pos ((h.edgeL hi).2 he)]
    · rw [if_neg he, if_neg (fun k => he ((h.edgeL hi).1 k)), ih]

theorem Dotted.endL {z a b : ByteArray} (h : Dotted z a b) {i : Nat} (h0 : 0 < i) (hi : i ≤ a.size) : IsEnd z i ↔ IsEnd a i := by
  have hs := h.size
  have hf := frst_le a (i - 1)
  have hso : sortAt z (i - 1) = sortAt a (i - 1) := by
    unfold sortAt
    rw [h.frstL (i - 1) (by omega), h.left _ (by omega)]
  by_cases h1 : i = a.size
  · subst h1
    refine ⟨fun _ => .inl rfl, fun _ => .inr ⟨(h.edgeL (Nat.le_refl _)).2 (edge_end a), ?_⟩⟩
    rw [h.mid, show sortC 46 = 111 from rfl]
    by_cases e : sortAt z (a.size - 1) = 111
    · exact .inr e
    · exact .inl e
  · constructor
    · rintro (e | ⟨e1, e2⟩)
      · omega
      · refine .inr ⟨(h.edgeL hi).1 e1, ?_⟩
        rw [hso, h.left i (by omega)] at e2
        exact e2
    · rintro (e | ⟨e1, e2⟩)
      · omega
      · refine .inr ⟨(h.edgeL hi).2 e1, ?_⟩
        rw [hso, h.left i (by omega)]
        exact e2

theorem Dotted.runL {z a b : ByteArray} (h : Dotted z a b) {lo hi : Nat} (hr : RunAt a lo hi) : RunAt z lo hi := by
  obtain ⟨h1, h2, h3, h4, h5⟩ := hr
  have hs := h.size
  refine ⟨h1, by omega, ?_, (h.endL (by omega) h2).2 h4, fun j a1 a2 hj => h5 j a1 a2 ((h.endL (by omega) (by omega)).1 hj)⟩
  rcases h3 with h3 | h3
  · exact .inl h3
  · by_cases e : lo = 0
    · exact .inl e
    · exact .inr ((h.endL (by omega) (by omega)).2 h3)

theorem Dotted.cutL {D : Dic} (hD : GoodDic D) {z a b : ByteArray} (h : Dotted z a b) {p : Nat} {x : List Nat} (hc : CutTo D a p x) : CutTo D z p x := by
  induction hc with
  | zero => exact .zero
  | @run lo hi l l1 h1 h2 h3 ih =>
    have hz := h.runL h2
    have ea := h2.edges
    have ez := hz.edges
    have hs := h.size
    have h2l := h2.2.1
    have hlt := h2.1
    obtain ⟨n, rfl⟩ : ∃ n, hi = lo + n := ⟨hi - lo, by omega⟩
    have hw : Win a z lo lo n := ⟨h2l, by omega, fun j hj => (h.left (lo + j) (by omega)).symm, ea.1, ez.1, ea.2, ez.2⟩
    obtain ⟨r, rfl, hr⟩ := hw.runCut hD (by omega) h2.2.2.2.1 hz.2.2.2.1 h3
    exact .run ih hz hr

/-! the dot -/
theorem Dotted.edgeD {z a b : ByteArray} (h : Dotted z a b) : Edge z (a.size + 1) := by
  have hs := h.size
  by_cases hb : 0 < b.size
  · refine .inr (.inr ?_)
    have := h.right 0 hb
    rw [Nat.add_zero] at this
    rw [this]
    exact h.nomark hb
  · exact .inr (.inl (by omega))

theorem Dotted.endD {z a b : ByteArray} (h : Dotted z a b) : IsEnd z (a.size + 1) := by
  have hs := h.size
  by_cases hb : 0 < b.size
  · refine .inr ⟨h.edgeD, .inr ?_⟩
    unfold sortAt
    rw [Nat.add_sub_cancel, frst_edge ((h.edgeL (Nat.le_refl _)).2 (edge_end a)), h.mid]
    rfl
  · exact .inl (by omega)

theorem Dotted.cutD {D : Dic} (hD : GoodDic D) {z a b : ByteArray} (h : Dotted z a b) {x : List Nat} (hc : CutTo D a a.size x) : CutTo D z (a.size + 1) (x ++ [a.size + 1]) := by
  have hs := h.size
  refine .run (h.cutL hD hc) ⟨by omega, by omega, ?_, h.endD, fun j a1 a2 => by omega⟩ (.inr (.inr ⟨?_, ?_, rfl⟩))
  · by_cases e : a.size = 0
    · exact .inl e
    · exact .inr ((h.endL (by omega) (Nat.le_refl _)).2 (.inl rfl))
  · rw [h.mid]; decide
  · rw [h.mid]; decide

/-! behind it -/
theorem Dotted.edgeR {z a b : ByteArray} (h : Dotted z a b) {i : Nat} (hi : i ≤ b.size) : Edge z (a.size + 1 + i) ↔ Edge b i := by
  have hs := h.size
  by_cases h0 : i = 0
  · subst h0; exact ⟨fun _ => edge_zero _, fun _ => h.edgeD⟩
  · by_cases h1 : i = b.size
    · subst h1
      exact ⟨fun _ => edge_end _, fun _ => .inr (.inl (by omega))⟩
    · rw [edge_mid (by omega) (by omega), edge_mid (by omega) (by omega), h.right i (by omega)]

theorem Dotted.frstR {z a b : ByteArray} (h : Dotted z a b) : ∀ i, i ≤ b.size → frst z (a.size + 1 + i) = a.size + 1 + frst b i
  | 0, _ => by rw [Nat.add_zero, frst_edge h.edgeD]; rfl
  | i + 1, hi => by
    have ih := h.frstR i (by omega)
    have e : a.size + 1 + (i + 1) = (a.size + 1 + i) + 1 := by omega
    rw [e]
    simp only [frst]
    rw [← e]
    by_cases he : Edge b (i + 1)
    · rw [if_pos he, if_pos ((h.edgeR hi).2 he)]
    · rw [if_neg he, if_neg (fun k => he ((h.edgeR hi).1 k)), ih]

theorem Dotted.endR {z a b : ByteArray} (h : Dotted z a b) {i : Nat} (h0 : 0 < i) (hi : i ≤ b.size) : IsEnd z (a.size + 1 + i) ↔ IsEnd b i := by
  have hs := h.size
  have hf := frst_le b (i - 1)
  have hso : sortAt z (a.size + 1 + i - 1) = sortAt b (i - 1) := by
    unfold sortAt
    rw [show a.size + 1 + i - 1 = a.size + 1 + (i - 1) by omega, h.frstR (i - 1) (by omega), h.right _ (by omega)]
  by_cases h1 : i = b.size
  · subst h1
    exact ⟨fun _ => .inl rfl, fun _ => .inl (by omega)⟩
  · constructor
    · rintro (e | ⟨e1, e2⟩)
      · omega
      · refine .inr ⟨(h.edgeR hi).1 e1, ?_⟩
        rw [hso, h.right i (by omega)] at e2
        exact e2
    · rintro (e | ⟨e1, e2⟩)
      · omega
      · refine .inr ⟨(h.edgeR hi).2 e1, ?_⟩
        rw [hso, h.right i (by omega)]
        exact e2

theorem Dotted.runR {z a b : ByteArray} (h : Dotted z a b) {lo hi : Nat} (hr : RunAt b lo hi) : RunAt z (a.size + 1 + lo) (a.size + 1 + hi) := by
  obtain ⟨h1, h2, h3, h4, h5⟩ := hr
  have hs := h.size
  refine ⟨by omega, by omega, .inr ?_, (h.endR (by omega) h2).2 h4, fun j a1 a2 hj => ?_⟩
  · by_cases e : lo = 0
    · subst e; exact h.endD
    · rcases h3 with h3 | h3
      · exact absurd h3 e
      · exact (h.endR (by omega) (by omega)).2 h3
  · obtain ⟨m, rfl⟩ : ∃ m, j = a.size + 1 + m := ⟨j - (a.size + 1), by omega⟩
    exact h5 m (by omega) (by omega) ((h.endR (by omega) (by omega)).1 hj)

theorem Dotted.cutR {D : Dic} (hD : GoodDic D) {z a b : ByteArray} (h : Dotted z a b) {x : List Nat} (hx : CutTo D a a.size x) {p : Nat} {y : List Nat} (hc : CutTo D b p y) : CutTo D z (a.size + 1 + p) (x ++ y.map (a.size + 1 + ·)) := by
  induction hc with
  | zero => exact h.cutD hD hx
  | @run lo hi l l1 h1 h2 h3 ih =>
    have hz := h.runR h2
    have eb := h2.edges
    have ez := hz.edges
    have hs := h.size
    have h2l := h2.2.1
    have hlt := h2.1
    obtain ⟨n, rfl⟩ : ∃ n, hi = lo + n := ⟨hi - lo, by omega⟩
    have en : a.size + 1 + (lo + n) = (a.size + 1 + lo) + n := by omega
    rw [en] at hz ez ⊢
    have hw : Win b z lo (a.size + 1 + lo) n := ⟨h2l, by omega, fun j hj => by rw [Nat.add_assoc (a.size + 1)]; exact (h.right (lo + j) (by omega)).symm, eb.1, ez.1, eb.2, ez.2⟩
    obtain ⟨r, rfl, hr⟩ := hw.runCut hD (by omega) h2.2.2.2.1 hz.2.2.2.1 h3
    have e : x ++ (l ++ r.map (lo + ·)).map (a.size + 1 + ·) = (x ++ l.map (a.size + 1 + ·)) ++ r.map (a.size + 1 + lo + ·) := by
      rw [List.map_append, List.append_assoc, List.map_map]
      congr 2
      apply List.map_congr_left
      intro j _
      simp only [Function.comp]
      omega
    rw [e]
    exact .run ih hz hr

/-- P11, as the statement has it. -/
theorem joined_holds {D : Dic} (hD : GoodDic D) {a b : ByteArray} (hb : 0 < b.size → bt b 0 ≠ 126) {x y z : List Nat} (hx : CutTo D a a.size x) (hy : CutTo D b b.size y) (hz : CutTo D (a ++ dot ++ b) (a ++ dot ++ b).size z) : z = x ++ y.map (a.size + 1 + ·) := by
  have h := dotted_of (a := a) hb
  have hc := h.cutR hD hx hy
  rw [← h.size] at hc
  exact hz.unique hc

end Go.Proofs.YtlfpepehngkehabDoor
/-
  Plain mathematics: the words that stand at a place, the shortest first; the best way, found from the run's end.
-/
namespace Go.Proofs.YtlfpepehngkehabDoor
set_option linter.unusedSimpArgs false
set_option linter.unusedVariables false

/-- the words that stand at i, as pairs of a length and a cost, the shortest first. -/
def StandL (D : Dic) (r : ByteArray) (i : Nat) (H : List (Nat × Nat)) : Prop :=
  H.Pairwise (fun a b => a.1 < b.1) ∧ ∀ l c, (l, c) ∈ H ↔ ∃ k, k < D.length ∧ Stands r i (wd D k) ∧ l = (wd D k).size ∧ c = ct D k

theorem StandL.nil_of {D : Dic} {r : ByteArray} {i : Nat} (h : ¬ Edge r i) : StandL D r i [] :=
  ⟨List.Pairwise.nil, fun l c => ⟨fun h => (by cases h), fun ⟨_, _, hs, _⟩ => absurd hs.1 h⟩⟩

theorem StandL.any {D : Dic} {r : ByteArray} {i : Nat} {H : List (Nat × Nat)} (h : StandL D r i H) : H ≠ [] ↔ AnyAt D r i := by
  constructor
  · intro hn
    cases H with
    | nil => exact absurd rfl hn
    | cons a H =>
      obtain ⟨k, h1, h2, _⟩ := (h.2 a.1 a.2).1 List.mem_cons_self
      exact ⟨k, h1, h2⟩
  · rintro ⟨k, h1, h2⟩ rfl
    have := (h.2 _ _).2 ⟨k, h1, h2, rfl, rfl⟩
    cases this

theorem StandL.at {D : Dic} (hD : Small D) {r : ByteArray} {i : Nat} {H : List (Nat × Nat)} (h : StandL D r i H) {p : Nat × Nat} (hp : p ∈ H) : 1 ≤ p.1 ∧ p.1 ≤ 12 ∧ p.2 ≤ 1000 ∧ i + p.1 ≤ r.size ∧ Edge r i ∧ Edge r (i + p.1) ∧ Step D r i (i + p.1) p.2 := by
  obtain ⟨k, h1, h2, h3, h4⟩ := (h.2 p.1 p.2).1 hp
  have := hD.at h1
  rw [h3, h4]
  exact ⟨this.1, this.2.1, this.2.2, h2.2.1, h2.1, h2.2.2.2, .inr ⟨k, h1, h2, rfl, rfl⟩⟩

theorem Way.cons {D : Dic} {t : ByteArray} {q p hi c c1 : Nat} {l : List Nat} (hs : Step D t q p c1) (h : Way D t p hi l c) : Way D t q hi (p :: l) (c1 + c) := by
  induction h with
  | nil => exact Nat.add_comm 0 c1 ▸ (Way.snoc (Way.nil (D := D) (t := t) (lo := q)) hs)
  | snoc h1 h2 ih => rw [← Nat.add_assoc]; exact Way.snoc ih h2

theorem Way.uncons {D : Dic} {t : ByteArray} {q hi c : Nat} {l : List Nat} (h : Way D t q hi l c) : (l = [] ∧ hi = q ∧ c = 0) ∨ ∃ p c1 l' c2, l = p :: l' ∧ Step D t q p c1 ∧ Way D t p hi l' c2 ∧ c = c1 + c2 := by
  induction h with
  | nil => exact .inl ⟨rfl, rfl, rfl⟩
  | @snoc a p c c' l h1 h2 ih =>
    right
    rcases ih with ⟨rfl, rfl, rfl⟩ | ⟨p1, c1, l', c2, rfl, h3, h4, rfl⟩
    · exact ⟨p, c', [], 0, rfl, h2, .nil, by omega⟩
    · exact ⟨p1, c1, l' ++ [p], c2 + c', rfl, h3, .snoc h4 h2, by omega⟩

/-- the best way from q to the run's end. -/
def Bst (D : Dic) (r : ByteArray) (q s : Nat) (l : List Nat) : Prop := Way D r q r.size l s ∧ ∀ l' c', Way D r q r.size l' c' → bleq (s, l) (c', l')

theorem Bst.unique {D : Dic} {r : ByteArray} {q s s' : Nat} {l l' : List Nat} (h : Bst D r q s l) (k : Bst D r q s' l') : l = l' :=
  congrArg Prod.snd (bleq_antisymm (h.2 _ _ k.1) (k.2 _ _ h.1))

theorem Bst.end {D : Dic} (hD : Small D) {r : ByteArray} {s : Nat} {l : List Nat} (h : Bst D r r.size s l) : l = [] := by
  have := (h.1.facts hD).1
  exact List.eq_nil_of_length_eq_zero (by omega)

theorem Bst.best {D : Dic} {r : ByteArray} {s : Nat} {l : List Nat} (h : Bst D r 0 s l) : IsBest D r 0 r.size l := ⟨s, h.1, h.2⟩

theorem Bst.last {D : Dic} (hD : Small D) (r : ByteArray) : Bst D r r.size 0 [] := by
  refine ⟨.nil, fun l' c' hw => ?_⟩
  rcases hw.uncons with ⟨rfl, _, rfl⟩ | ⟨p, c1, l2, c2, _, h1, _, _⟩
  · exact bleq_refl _
  · have := h1.lt hD; omega

/-- what the loop over the words has found: the first step that ends at e. -/
def Pick (f : Nat → Nat) (i ce : Nat) (H : List (Nat × Nat)) (e v : Nat) : Prop :=
  ((e = ce ∧ v = 500 + f ce) ∨ ∃ h ∈ H, e = i + h.1 ∧ v = h.2 + f e) ∧ (v < 500 + f ce ∨ (v = 500 + f ce ∧ e ≤ ce)) ∧ ∀ h ∈ H, v < h.2 + f (i + h.1) ∨ (v = h.2 + f (i + h.1) ∧ e ≤ i + h.1)

theorem Pick.start (f : Nat → Nat) (i ce : Nat) : Pick f i ce [] ce (500 + f ce) := ⟨.inl ⟨rfl, rfl⟩, .inr ⟨rfl, Nat.le_refl _⟩, fun _ h => by cases h⟩

theorem Pick.le {f : Nat → Nat} {i ce e v : Nat} {H : List (Nat × Nat)} {h : Nat × Nat} (hP : Pick f i ce H e v) (hc : ce ≤ i + h.1) (hp : (H ++ [h]).Pairwise (fun a b => a.1 < b.1)) : e ≤ i + h.1 := by
  rcases hP.1 with ⟨rfl, _⟩ | ⟨h', hm, rfl, _⟩
  · exact hc
  · have := (List.pairwise_append.1 hp).2.2 h' hm h (by simp)
    omega

theorem Pick.take {f : Nat → Nat} {i ce e v : Nat} {H : List (Nat × Nat)} {h : Nat × Nat} (hP : Pick f i ce H e v) (hlt : h.2 + f (i + h.1) < v) : Pick f i ce (H ++ [h]) (i + h.1) (h.2 + f (i + h.1)) := by
  obtain ⟨_, h2, h3⟩ := hP
  refine ⟨.inr ⟨h, by simp, rfl, rfl⟩, .inl (by omega), fun h' hm => ?_⟩
  rcases List.mem_append.1 hm with hm | hm
  · have := h3 h' hm; exact .inl (by omega)
  · simp at hm; subst hm; exact .inr ⟨rfl, Nat.le_refl _⟩

theorem Pick.keep {f : Nat → Nat} {i ce e v : Nat} {H : List (Nat × Nat)} {h : Nat × Nat} (hP : Pick f i ce H e v) (hge : ¬ h.2 + f (i + h.1) < v) (he : e ≤ i + h.1) : Pick f i ce (H ++ [h]) e v := by
  obtain ⟨h1, h2, h3⟩ := hP
  refine ⟨?_, h2, fun h' hm => ?_⟩
  · rcases h1 with h1 | ⟨h', hm, h1⟩
    · exact .inl h1
    · exact .inr ⟨h', by simp [hm], h1⟩
  · rcases List.mem_append.1 hm with hm | hm
    · exact h3 h' hm
    · simp at hm; subst hm; omega

/-- next and sums, as far as they are known. -/
def Fine (D : Dic) (r : ByteArray) (N S : Nat → Nat) (i : Nat) : Prop :=
  ∀ q, i ≤ q → q ≤ r.size → S q ≤ 500 * (r.size - q) ∧ (Edge r q → ∃ l, Bst D r q (S q) l ∧ (q < r.size → ∃ l', l = N q :: l' ∧ q < N q ∧ N q ≤ r.size ∧ Edge r (N q) ∧ Bst D r (N q) (S (N q)) l'))

theorem Fine.start {D : Dic} (hD : Small D) (r : ByteArray) {N S : Nat → Nat} (h0 : S r.size = 0) : Fine D r N S r.size := by
  intro q h1 h2
  obtain rfl : q = r.size := by omega
  rw [h0]
  exact ⟨by omega, fun _ => ⟨[], Bst.last hD r, fun h => by omega⟩⟩

/-- one place more. -/
theorem Fine.more {D : Dic} (hD : Small D) {r : ByteArray} {N S N' S' : Nat → Nat} {i ce e v : Nat} {H : List (Nat × Nat)} (hF : Fine D r N S (i + 1)) (hi : i < r.size) (hce : i < ce ∧ ce ≤ r.size) (hno : ∀ j, i < j → j < ce → ¬ Edge r j) (hced : Edge r ce)
    (hH : StandL D r i H) (hP : Pick S i ce H e v) (hN : N' i = e ∧ ∀ q, q ≠ i → N' q = N q) (hS : S' i = v ∧ ∀ q, q ≠ i → S' q = S q) : Fine D r N' S' i := by
  have hcs := (hF ce (by omega) hce.2).1
  have he : i < e ∧ e ≤ r.size ∧ Edge r e := by
    rcases hP.1 with ⟨rfl, _⟩ | ⟨h, hm, rfl, _⟩
    · exact ⟨hce.1, hce.2, hced⟩
    · have := hH.at hD hm; exact ⟨by omega, by omega, this.2.2.2.2.2.1⟩
  intro q h1 h2
  by_cases hq : q = i
  · subst hq
    rw [hS.1, hN.1, hS.2 e (by omega)]
    constructor
    · rcases hP.2.1 with h | h <;> omega
    · intro hEq
      obtain ⟨l, hl, _⟩ := (hF e (by omega) he.2.1).2 he.2.2
      have hstep : Step D r q e (v - S e) ∧ v = (v - S e) + S e := by
        rcases hP.1 with ⟨rfl, hv⟩ | ⟨h, hm, rfl, hv⟩
        · rw [hv]
          refine ⟨.inl ⟨hEq, hce.1, hce.2, hced, hno, by omega⟩, by omega⟩
        · have := (hH.at hD hm).2.2.2.2.2.2
          rw [hv, Nat.add_sub_cancel]
          exact ⟨this, rfl⟩
      refine ⟨e :: l, ⟨?_, fun l' c' hw => ?_⟩, fun _ => ⟨l, rfl, he.1, he.2.1, he.2.2, hl⟩⟩
      · rw [hstep.2]; exact hl.1.cons hstep.1
      · rcases hw.uncons with ⟨_, hx, _⟩ | ⟨p, c1, l2, c2, rfl, s1, s2, rfl⟩
        · omega
        · have hp := s1.lt hD
          obtain ⟨lp, hlp, _⟩ := (hF p (by omega) hp.2.1).2 hp.2.2.2.2
          have hb := hlp.2 _ _ s2
          have hle : v < c1 + S p ∨ (v = c1 + S p ∧ e ≤ p) := by
            rcases s1 with ⟨_, a2, a3, a4, a5, rfl⟩ | ⟨k, b1, b2, b3, b4⟩
            · have : p = ce := by
                by_cases x : p < ce
                · exact absurd a4 (hno p a2 x)
                · by_cases y : ce < p
                  · exact absurd hced (a5 ce hce.1 y)
                  · omega
              subst this
              exact hP.2.1
            · have := hP.2.2 ((wd D k).size, ct D k) ((hH.2 _ _).2 ⟨k, b1, b2, rfl, rfl⟩)
              simp only at this
              rw [← b3, ← b4] at this
              exact this
          have hc2 : S p ≤ c2 := by rcases hb with h | h <;> simp at h <;> omega
          by_cases hv : v < c1 + c2
          · exact .inl hv
          · refine .inr ⟨by simp only; omega, ?_⟩
            by_cases hep : e = p
            · subst hep
              have e2 : S e = c2 := by omega
              have : l = lp := hl.unique hlp
              subst this
              rcases hb with h | ⟨_, h⟩
              · simp at h; omega
              · simp only [llt, Nat.lt_irrefl, decide_false, Bool.false_or, decide_true, Bool.true_and]; exact h
            · have : e < p := by omega
              simp only [llt, Bool.or_eq_false_iff, decide_eq_false_iff_not, Bool.and_eq_false_iff]
              exact ⟨by omega, .inl (by omega)⟩
  · have := hF q (by omega) h2
    rw [hS.2 q hq, hN.2 q hq]
    refine ⟨this.1, fun hEq => ?_⟩
    obtain ⟨l, k1, k2⟩ := this.2 hEq
    refine ⟨l, k1, fun hlt => ?_⟩
    obtain ⟨l', m1, m2, m3, m4, m5⟩ := k2 hlt
    exact ⟨l', m1, m2, m3, m4, by rw [hS.2 _ (by omega)]; exact m5⟩

/-- along the way. -/
def Along (D : Dic) (r : ByteArray) (S : Nat → Nat) (p : Nat) (x : List Nat) : Prop := p ≤ r.size ∧ Edge r p ∧ x.length ≤ p ∧ ∃ l, Bst D r p (S p) l ∧ Bst D r 0 (S 0) (x ++ l)

theorem Along.start {D : Dic} {r : ByteArray} {N S : Nat → Nat} (hF : Fine D r N S 0) : Along D r S 0 [] := by
  obtain ⟨l, h, _⟩ := (hF 0 (Nat.le_refl _) (Nat.zero_le _)).2 (edge_zero r)
  exact ⟨Nat.zero_le _, edge_zero r, by simp, l, h, h⟩

theorem Along.next {D : Dic} {r : ByteArray} {N S : Nat → Nat} {p : Nat} {x : List Nat} (hF : Fine D r N S 0) (h : Along D r S p x) (hp : p < r.size) : p < N p ∧ N p ≤ r.size ∧ Along D r S (N p) (x ++ [N p]) := by
  obtain ⟨_, h2, h4, l, h5, h6⟩ := h
  obtain ⟨l1, k1, k2⟩ := (hF p (Nat.zero_le _) (by omega)).2 h2
  obtain ⟨l', rfl, m2, m3, m4, m5⟩ := k2 hp
  have := h5.unique k1
  subst this
  refine ⟨m2, m3, m3, m4, by simp; omega, l', m5, ?_⟩
  rw [List.append_assoc]
  exact h6

theorem Along.done {D : Dic} (hD : Small D) {r : ByteArray} {S : Nat → Nat} {p : Nat} {x : List Nat} (h : Along D r S p x) (hp : p = r.size) : IsBest D r 0 r.size x := by
  subst hp
  obtain ⟨_, _, _, l, h5, h6⟩ := h
  have := h5.end hD
  subst this
  rw [List.append_nil] at h6
  exact h6.best

end Go.Proofs.YtlfpepehngkehabDoor
/-
  Plain mathematics: how far rows of words reach, and the first of them, by the words that stand.
-/
namespace Go.Proofs.YtlfpepehngkehabDoor
set_option linter.unusedSimpArgs false
set_option linter.unusedVariables false

/-- the farthest that these words lead to. -/
def hm (f : Nat → Nat) (p : Nat) (H : List (Nat × Nat)) : Nat := H.foldl (fun m h => max m (f (p + h.1))) p

theorem hm_snoc (f : Nat → Nat) (p : Nat) (H : List (Nat × Nat)) (h : Nat × Nat) : hm f p (H ++ [h]) = max (hm f p H) (f (p + h.1)) := by simp [hm]

theorem fold_spec (f : Nat → Nat) (p : Nat) : ∀ (H : List (Nat × Nat)) (a : Nat), let m := H.foldl (fun m h => max m (f (p + h.1))) a
    a ≤ m ∧ (∀ h ∈ H, f (p + h.1) ≤ m) ∧ (m = a ∨ ∃ h ∈ H, m = f (p + h.1))
  | [], a => ⟨Nat.le_refl _, (fun _ h => by cases h), .inl rfl⟩
  | x :: H, a => by
    obtain ⟨h1, h2, h3⟩ := fold_spec f p H (max a (f (p + x.1)))
    simp only [List.foldl_cons]
    refine ⟨by omega, fun h hm => ?_, ?_⟩
    · rcases List.mem_cons.1 hm with rfl | hm
      · omega
      · exact h2 h hm
    · rcases h3 with h3 | ⟨h, hm, h3⟩
      · rw [h3]
        by_cases e : a ≤ f (p + x.1)
        · exact .inr ⟨x, by simp, by omega⟩
        · exact .inl (by omega)
      · exact .inr ⟨h, List.mem_cons_of_mem _ hm, h3⟩

theorem rowTo_spec (f : Nat → Nat) (D : Dic) (t : ByteArray) (p : Nat) : ∀ n, p ≤ rowTo f D t p n ∧ (∀ k, k < n → Stands t p (wd D k) → f (p + (wd D k).size) ≤ rowTo f D t p n) ∧ (rowTo f D t p n = p ∨ ∃ k, k < n ∧ Stands t p (wd D k) ∧ rowTo f D t p n = f (p + (wd D k).size))
  | 0 => ⟨Nat.le_refl _, fun _ h => by omega, .inl rfl⟩
  | n + 1 => by
    obtain ⟨h1, h2, h3⟩ := rowTo_spec f D t p n
    simp only [rowTo]
    split
    · rename_i hs
      refine ⟨by omega, fun k hk hst => ?_, ?_⟩
      · by_cases e : k = n
        · subst e; omega
        · have := h2 k (by omega) hst; omega
      · by_cases e : rowTo f D t p n ≤ f (p + (wd D n).size)
        · exact .inr ⟨n, by omega, hs, by omega⟩
        · rcases h3 with h3 | ⟨k, a, b, c⟩
          · exact .inl (by omega)
          · exact .inr ⟨k, by omega, b, by omega⟩
    · rename_i hs
      refine ⟨h1, fun k hk hst => ?_, ?_⟩
      · by_cases e : k = n
        · subst e; exact absurd hst hs
        · exact h2 k (by omega) hst
      · rcases h3 with h3 | ⟨k, a, b, c⟩
        · exact .inl h3
        · exact .inr ⟨k, by omega, b, c⟩

theorem rowTo_hm {f : Nat → Nat} {D : Dic} {r : ByteArray} {p : Nat} {H : List (Nat × Nat)} (h : StandL D r p H) : rowTo f D r p D.length = hm f p H := by
  obtain ⟨a1, a2, a3⟩ := rowTo_spec f D r p D.length
  obtain ⟨b1, b2, b3⟩ := fold_spec f p H p
  unfold hm
  have h1 : rowTo f D r p D.length ≤ H.foldl (fun m h => max m (f (p + h.1))) p := by
    rcases a3 with a3 | ⟨k, k1, k2, k3⟩
    · omega
    · have := b2 _ ((h.2 _ _).2 ⟨k, k1, k2, rfl, rfl⟩)
      simp only at this
      omega
  have h2 : H.foldl (fun m h => max m (f (p + h.1))) p ≤ rowTo f D r p D.length := by
    rcases b3 with b3 | ⟨x, x1, x2⟩
    · omega
    · obtain ⟨k, k1, k2, k3, _⟩ := (h.2 x.1 x.2).1 x1
      have := a2 k k1 k2
      rw [x2, k3]
      exact this
  omega

theorem rch_up (D : Dic) (t : ByteArray) (hi : Nat) : ∀ n p, p ≤ rch D t hi n p
  | 0, p => Nat.le_refl _
  | n + 1, p => by
    simp only [rch]
    split
    · exact (rowTo_spec _ D t p D.length).1
    · exact Nat.le_refl _

theorem rch_le {D : Dic} {t : ByteArray} : ∀ (n p : Nat), p ≤ t.size → rch D t t.size n p ≤ t.size
  | 0, p, h => h
  | n + 1, p, h => by
    simp only [rch]
    split
    · rcases (rowTo_spec (rch D t t.size n) D t p D.length).2.2 with e | ⟨k, _, h2, e⟩
      · omega
      · rw [e]; exact rch_le n _ h2.2.1
    · exact h

theorem rch_hm {D : Dic} {r : ByteArray} {n p : Nat} {H : List (Nat × Nat)} (h : StandL D r p H) (hp : p < r.size) : rch D r r.size (n + 1) p = hm (rch D r r.size n) p H := by
  simp only [rch]; rw [if_pos hp]; exact rowTo_hm h

theorem rch_end (D : Dic) (r : ByteArray) (n : Nat) : rch D r r.size n r.size = r.size := by
  cases n with
  | zero => rfl
  | succ n => simp only [rch]; rw [if_neg (by omega)]

/-- what the loop over the words has found. -/
def Fw (f : Nat → Nat) (p : Nat) (H : List (Nat × Nat)) (b m : Nat) : Prop :=
  (H = [] ∧ b = p ∧ m = p) ∨ ((∃ h ∈ H, b = p + h.1) ∧ m = f b ∧ ∀ h ∈ H, f (p + h.1) < m ∨ (f (p + h.1) = m ∧ p + h.1 ≤ b))

theorem Fw.take {f : Nat → Nat} {p b m : Nat} {H : List (Nat × Nat)} {h : Nat × Nat} (hF : Fw f p H b m) (hp : (H ++ [h]).Pairwise (fun a b => a.1 < b.1)) (hge : m ≤ f (p + h.1)) : Fw f p (H ++ [h]) (p + h.1) (f (p + h.1)) := by
  refine .inr ⟨⟨h, by simp, rfl⟩, rfl, fun x hx => ?_⟩
  rcases List.mem_append.1 hx with hx | hx
  · have hlt := (List.pairwise_append.1 hp).2.2 x hx h (by simp)
    rcases hF with ⟨rfl, _⟩ | ⟨_, _, h3⟩
    · cases hx
    · have := h3 x hx; omega
  · simp at hx; subst hx; exact .inr ⟨rfl, Nat.le_refl _⟩

theorem Fw.keep {f : Nat → Nat} {p b m : Nat} {H : List (Nat × Nat)} {h : Nat × Nat} (hF : Fw f p H b m) (hf : p ≤ f (p + h.1)) (hlt : ¬ m ≤ f (p + h.1)) : Fw f p (H ++ [h]) b m := by
  rcases hF with ⟨rfl, rfl, rfl⟩ | ⟨⟨x, x1, x2⟩, h2, h3⟩
  · omega
  · refine .inr ⟨⟨x, by simp [x1], x2⟩, h2, fun y hy => ?_⟩
    rcases List.mem_append.1 hy with hy | hy
    · exact h3 y hy
    · simp at hy; subst hy; exact .inl (by omega)

theorem Fw.best {D : Dic} {r : ByteArray} {p b m : Nat} {H : List (Nat × Nat)} (hH : StandL D r p H) (hF : Fw (rch D r r.size 2) p H b m) (hn : H ≠ []) : AheadOk D r p r.size b := by
  rcases hF with ⟨h, _⟩ | ⟨⟨x, x1, x2⟩, h2, h3⟩
  · exact absurd h hn
  · left
    obtain ⟨k, k1, k2, k3, _⟩ := (hH.2 x.1 x.2).1 x1
    refine ⟨⟨k, k1, k2, by omega⟩, fun j j1 j2 => ?_⟩
    have := h3 _ ((hH.2 _ _).2 ⟨j, j1, j2, rfl, rfl⟩)
    simp only at this
    omega

/-- along the pieces. -/
def Ahead (D : Dic) (r : ByteArray) (p : Nat) (x : List Nat) : Prop := p ≤ r.size ∧ x.length ≤ p ∧ ∀ l, AheadRun D r r.size p l → AheadRun D r r.size 0 (x ++ l)

theorem Ahead.start (D : Dic) (r : ByteArray) : Ahead D r 0 [] := ⟨Nat.zero_le _, by simp, fun _ h => h⟩

theorem Ahead.next {D : Dic} (hD : GoodDic D) {r : ByteArray} {p e : Nat} {x : List Nat} (h : Ahead D r p x) (hp : p < r.size) (ho : AheadOk D r p r.size e) : p < e ∧ e ≤ r.size ∧ Ahead D r e (x ++ [e]) := by
  have hb := ho.lt hD hp (.inl rfl)
  obtain ⟨_, h2, h3⟩ := h
  refine ⟨hb.1, hb.2, hb.2, by simp; omega, fun l hl => ?_⟩
  rw [List.append_assoc]
  exact h3 _ (.step hp ho hl)

theorem Ahead.done {D : Dic} {r : ByteArray} {p : Nat} {x : List Nat} (h : Ahead D r p x) (hp : p = r.size) : AheadRun D r r.size 0 x := by
  subst hp
  have := h.2.2 [] .done
  rwa [List.append_nil] at this

end Go.Proofs.YtlfpepehngkehabDoor
/-
  Plain mathematics: the program's tables.
-/
namespace Go.Proofs.YtlfpepehngkehabDoor
set_option linter.unusedSimpArgs false
set_option linter.unusedVariables false

theorem hm_congr {f g : Nat → Nat} {p : Nat} {H : List (Nat × Nat)} (h : ∀ x ∈ H, f (p + x.1) = g (p + x.1)) : hm f p H = hm g p H := by
  unfold hm
  suffices ∀ (H : List (Nat × Nat)) (a : Nat), (∀ x ∈ H, f (p + x.1) = g (p + x.1)) → H.foldl (fun m h => max m (f (p + h.1))) a = H.foldl (fun m h => max m (g (p + h.1))) a from this H p h
  intro H
  induction H with
  | nil => intro a _; rfl
  | cons x H ih =>
    intro a hx
    simp only [List.foldl_cons]
    rw [hx x (by simp), ih _ (fun y hy => hx y (List.mem_cons_of_mem _ hy))]

/-- a table as a function. -/
def tb (L : List Nat) (q : Nat) : Nat := L.getD q 0

theorem tb_get {L : List Nat} {q : Nat} (h : q < L.length) : tb L q = L[q] := by simp [tb, List.getD_eq_getElem?_getD, List.getElem?_eq_getElem h]
theorem tb_set {L : List Nat} {i v : Nat} (h : i < L.length) : tb (L.set i v) i = v := by rw [tb_get (by simpa using h)]; simp
theorem tb_set_ne {L : List Nat} {i v q : Nat} (h : q ≠ i) : tb (L.set i v) q = tb L q := by
  unfold tb
  rw [List.getD_eq_getElem?_getD, List.getD_eq_getElem?_getD, List.getElem?_set_ne (fun e => h e.symm)]
theorem tb_map (f : Nat → Nat) (n q : Nat) (h : q < n) : tb ((List.range n).map f) q = f q := by
  rw [tb_get (by simpa using h)]; simp
theorem tb_rep (n q : Nat) : tb (List.replicate n 0) q = 0 := by
  unfold tb
  rw [List.getD_eq_getElem?_getD, List.getElem?_replicate]
  split <;> rfl

def moreL (R : List Nat) (Hs : List (List (Nat × Nat))) (n : Nat) : List Nat := (List.range n).map fun i => hm (tb R) i (Hs.getD i [])

theorem moreL_length (R : List Nat) (Hs : List (List (Nat × Nat))) (n : Nat) : (moreL R Hs n).length = n := by simp [moreL]
theorem moreL_snoc (R : List Nat) (Hs : List (List (Nat × Nat))) (n : Nat) (h : n < Hs.length) : moreL R Hs (n + 1) = moreL R Hs n ++ [hm (tb R) n Hs[n]] := by
  simp [moreL, List.range_succ, List.getD_eq_getElem?_getD, List.getElem?_eq_getElem h]

/-- the words that stand at each place of a run. -/
def StandsOf (D : Dic) (r : ByteArray) (Hs : List (List (Nat × Nat))) : Prop := ∀ i (h : i < Hs.length), StandL D r i Hs[i] ∧ Hs[i].length ≤ 12

theorem StandsOf.nil (D : Dic) (r : ByteArray) : StandsOf D r [] := fun i h => by simp at h

theorem StandsOf.more {D : Dic} {r : ByteArray} {Hs : List (List (Nat × Nat))} {H : List (Nat × Nat)} (h : StandsOf D r Hs) (hH : StandL D r Hs.length H) (hl : H.length ≤ 12) : StandsOf D r (Hs ++ [H]) := by
  intro i hi
  by_cases e : i < Hs.length
  · rw [List.getElem_append_left e]; exact h i e
  · obtain rfl : i = Hs.length := by simp at hi; omega
    simp only [List.getElem_concat_length]
    exact ⟨hH, hl⟩

/-- each of these words ends within the run. -/
def Within (Hs : List (List (Nat × Nat))) : Prop := ∀ i (h : i < Hs.length), Hs[i].length ≤ 12 ∧ ∀ x ∈ Hs[i], 1 ≤ x.1 ∧ i + x.1 ≤ Hs.length ∧ x.2 ≤ 1000

theorem StandsOf.within {D : Dic} (hD : Small D) {r : ByteArray} {Hs : List (List (Nat × Nat))} (h : StandsOf D r Hs) (hl : Hs.length = r.size) : Within Hs := fun i hi => ⟨(h i hi).2, fun x hx => by
  have := (h i hi).1.at hD hx
  exact ⟨this.1, by omega, this.2.2.1⟩⟩

def reachL (D : Dic) (r : ByteArray) (m : Nat) : List Nat := (List.range (r.size + 1)).map (rch D r r.size m)

theorem reachL_length (D : Dic) (r : ByteArray) (m : Nat) : (reachL D r m).length = r.size + 1 := by simp [reachL]
theorem reachL_zero (D : Dic) (r : ByteArray) : reachL D r 0 = List.range (r.size + 1) := by simp [reachL, rch]
theorem tb_reachL (D : Dic) (r : ByteArray) (m q : Nat) (h : q ≤ r.size) : tb (reachL D r m) q = rch D r r.size m q := tb_map _ _ _ (by omega)

theorem reachL_more {D : Dic} (hD : Small D) {r : ByteArray} {Hs : List (List (Nat × Nat))} (h : StandsOf D r Hs) (hl : Hs.length = r.size) (m : Nat) : moreL (reachL D r m) Hs Hs.length ++ [Hs.length] = reachL D r (m + 1) := by
  have e0 : reachL D r (m + 1) = (List.range r.size).map (rch D r r.size (m + 1)) ++ [r.size] := by simp [reachL, List.range_succ, rch_end]
  rw [e0, hl]
  congr 1
  unfold moreL
  apply List.map_congr_left
  intro i hi
  have hi : i < Hs.length := by rw [hl]; simpa using hi
  have e : Hs.getD i [] = Hs[i] := by simp [List.getD_eq_getElem?_getD, List.getElem?_eq_getElem hi]
  rw [e, rch_hm (h i hi).1 (by omega)]
  apply hm_congr
  intro x hx
  have := (h i hi).1.at hD hx
  exact tb_reachL _ _ _ _ (by omega)

theorem Fw.congr {f g : Nat → Nat} {p b m : Nat} {H : List (Nat × Nat)} (h : ∀ x ∈ H, f (p + x.1) = g (p + x.1)) (hF : Fw f p H b m) : Fw g p H b m := by
  rcases hF with h1 | ⟨⟨x, x1, x2⟩, h2, h3⟩
  · exact .inl h1
  · refine .inr ⟨⟨x, x1, x2⟩, ?_, fun y hy => ?_⟩
    · rw [h2, x2, h x x1]
    · rw [← h y hy]; exact h3 y hy

end Go.Proofs.YtlfpepehngkehabDoor
/-
  Plain mathematics: what walks answer, by the place of a boundary in the list.
-/
namespace Go.Proofs.YtlfpepehngkehabDoor
set_option linter.unusedSimpArgs false
set_option linter.unusedVariables false

theorem bounds_mono {L : List Nat} {n : Nat} (hb : Bounds L n) {i j : Nat} (hi : i < L.length) (hj : j < L.length) (h : i < j) : L[i] < L[j] := List.pairwise_iff_getElem.1 hb.srt i j hi hj h

theorem bounds_lt {L : List Nat} {n : Nat} (hb : Bounds L n) {i j : Nat} (hi : i < L.length) (hj : j < L.length) (h : L[i] < L[j]) : i < j := by
  rcases Nat.lt_or_ge i j with x | x
  · exact x
  · rcases Nat.lt_or_ge j i with y | y
    · have := bounds_mono hb hj hi y; omega
    · obtain rfl : i = j := by omega
      omega

theorem bounds_first {L : List Nat} {n : Nat} (hb : Bounds L n) (h : 0 < L.length) : L[0] = 0 := by
  obtain ⟨j, hj, e⟩ := List.mem_iff_getElem.1 hb.zero
  rcases Nat.eq_zero_or_pos j with rfl | x
  · exact e
  · have := bounds_mono hb h hj x; omega

theorem bounds_end {L : List Nat} {n : Nat} (hb : Bounds L n) (h : 0 < L.length) : L[L.length - 1]'(by omega) = n := by
  obtain ⟨j, hj, e⟩ := List.mem_iff_getElem.1 hb.last
  rcases Nat.lt_or_ge j (L.length - 1) with x | x
  · have h1 := bounds_mono hb hj (show L.length - 1 < L.length by omega) x
    have h2 := hb.le (L[L.length - 1]'(by omega)) (List.getElem_mem _)
    omega
  · have : j = L.length - 1 := by omega
    subst this; exact e

theorem abv_next {L : List Nat} {n : Nat} (hb : Bounds L n) {i : Nat} (hi : i + 1 < L.length) : IsAbv L (L[i]'(by omega) : Nat) (L[i + 1] : Nat) := by
  refine .inr ⟨L[i + 1], List.getElem_mem hi, rfl, by have := bounds_mono hb (show i < L.length by omega) hi (by omega); omega, fun y hy hlt => ?_⟩
  obtain ⟨j, hj, rfl⟩ := List.mem_iff_getElem.1 hy
  have := bounds_lt hb (show i < L.length by omega) hj (by omega)
  rcases Nat.lt_or_ge (i + 1) j with x | x
  · have := bounds_mono hb hi hj x; omega
  · obtain rfl : j = i + 1 := by omega
    exact Nat.le_refl _

theorem blw_prev {L : List Nat} {n : Nat} (hb : Bounds L n) {i : Nat} (hi : i + 1 < L.length) : IsBlw L (L[i + 1] : Nat) (L[i]'(by omega) : Nat) := by
  refine .inr ⟨L[i]'(by omega), List.getElem_mem _, rfl, by have := bounds_mono hb (show i < L.length by omega) hi (by omega); omega, fun y hy hlt => ?_⟩
  obtain ⟨j, hj, rfl⟩ := List.mem_iff_getElem.1 hy
  have := bounds_lt hb hj hi (by omega)
  rcases Nat.lt_or_ge j i with x | x
  · have := bounds_mono hb hj (show i < L.length by omega) x; omega
  · obtain rfl : j = i := by omega
    exact Nat.le_refl _

theorem next_is (D : Dic) {t : ByteArray} {L : List Nat} (hb : Bounds L t.size) {i : Nat} (hi : i + 1 < L.length) : MoveIs D t L (L[i]'(by omega)) 3 0 (L[i + 1] : Nat) L[i + 1] :=
  .inr ⟨by decide, L[i + 1], by unfold WantsTo; simp; exact abv_next hb hi, by unfold goesTo; rw [if_pos (by omega)], by rw [if_neg (by decide)]⟩

theorem next_end (D : Dic) {t : ByteArray} {L : List Nat} (hb : Bounds L t.size) : MoveIs D t L t.size 3 0 (-1) t.size :=
  .inr ⟨by decide, -1, by unfold WantsTo; simp; exact .inl ⟨rfl, fun x hx => by have := hb.le x hx; omega⟩, by unfold goesTo; simp, by rw [if_neg (by decide)]⟩

theorem prev_is (D : Dic) {t : ByteArray} {L : List Nat} (hb : Bounds L t.size) {i : Nat} (hi : i + 1 < L.length) : MoveIs D t L L[i + 1] 4 0 (L[i]'(by omega) : Nat) (L[i]'(by omega)) :=
  .inr ⟨by decide, (L[i]'(by omega) : Nat), by unfold WantsTo; simp; exact blw_prev hb hi, by unfold goesTo; rw [if_pos (by omega)], by rw [if_neg (by decide)]⟩

theorem prev_end (D : Dic) (t : ByteArray) (L : List Nat) : MoveIs D t L 0 4 0 (-1) 0 :=
  .inr ⟨by decide, -1, by unfold WantsTo; simp; exact .inl ⟨rfl, fun x _ => by omega⟩, by unfold goesTo; simp, by rw [if_neg (by decide)]⟩

theorem place_is (D : Dic) (t : ByteArray) (L : List Nat) (a : Nat) : MoveIs D t L a 0 0 (a : Nat) a :=
  .inr ⟨by decide, a, by unfold WantsTo; simp, by unfold goesTo; rw [if_pos (by omega)], by rw [if_neg (by decide)]⟩

/-- where Following and Preceding go. -/
def folTo (n : Nat) (x : Int) : Nat := if 0 ≤ x then x.toNat else n
def preTo (x : Int) : Nat := if 0 ≤ x then x.toNat else 0

theorem fol_is (D : Dic) {t : ByteArray} {L : List Nat} (a : Nat) {k x : Int} (h : IsAbv L k x) : MoveIs D t L a 5 k x (folTo t.size x) :=
  .inr ⟨by decide, x, by unfold WantsTo; simp; exact h, by unfold goesTo folTo; split <;> simp; omega, by rw [if_neg (by decide)]⟩

theorem pre_is (D : Dic) {t : ByteArray} {L : List Nat} (a : Nat) {k x : Int} (h : IsBlw L k x) : MoveIs D t L a 6 k x (preTo x) :=
  .inr ⟨by decide, x, by unfold WantsTo; simp; exact h, by unfold goesTo preTo; split <;> simp; omega, by rw [if_neg (by decide)]⟩

/-- Is: yes. -/
theorem is_yes (D : Dic) {t : ByteArray} {L : List Nat} (hb : Bounds L t.size) (a : Nat) {x : Nat} (h : x ∈ L) : MoveIs D t L a 7 (x : Nat) 1 x := by
  by_cases h0 : x = 0
  · subst h0
    exact .inr ⟨by decide, 0, by unfold WantsTo; simp, by unfold goesTo; simp, by simp⟩
  · refine .inr ⟨by decide, x, ?_, by unfold goesTo; rw [if_pos (by omega)], ?_⟩
    · unfold WantsTo
      simp
      rw [if_pos (by omega)]
      exact .inr ⟨x, h, rfl, by omega, fun y _ hy => by omega⟩
    · simp

/-- Is: no: the first boundary above k, or the last one. -/
theorem is_no (D : Dic) {t : ByteArray} {L : List Nat} (hb : Bounds L t.size) (a : Nat) {k x : Int} (hk : ∀ y ∈ L, (y : Int) ≠ k) (h : IsAbv L k x) : MoveIs D t L a 7 k 0 (folTo t.size x) := by
  have h0 : k ≠ 0 := fun e => hk 0 hb.zero (by omega)
  have hx : x ≠ k := by
    rcases h with ⟨rfl, h1⟩ | ⟨y, hy, rfl, h1, _⟩
    · intro e
      have := h1 0 hb.zero
      omega
    · omega
  refine .inr ⟨by decide, x, ?_, ?_, ?_⟩
  · unfold WantsTo
    simp
    by_cases hp : 0 < k
    · rw [if_pos hp]
      rcases h with ⟨rfl, h1⟩ | ⟨y, hy, rfl, h1, h2⟩
      · refine .inl ⟨rfl, fun z hz => ?_⟩
        have := h1 z hz
        have := hk z hz
        omega
      · refine .inr ⟨y, hy, rfl, by omega, fun z hz hlt => h2 z hz ?_⟩
        have := hk z hz
        omega
    · rw [if_neg hp, if_neg h0]
      exact h
  · unfold goesTo folTo
    split <;> simp
    omega
  · simp
    intro e
    exact absurd e hx

/-! from the end of the list on -/
theorem abv_cons {S : List Nat} {x : Nat} {k r : Int} (h : IsAbv S k r) (hx : ∀ y ∈ S, x < y) : IsAbv (x :: S) k (if k < (x : Int) then (x : Int) else r) := by
  split
  · rename_i hk
    refine .inr ⟨x, List.mem_cons_self, rfl, hk, fun y hy _ => ?_⟩
    rcases List.mem_cons.1 hy with rfl | hy
    · exact Nat.le_refl _
    · exact Nat.le_of_lt (hx y hy)
  · rename_i hk
    rcases h with ⟨rfl, h⟩ | ⟨y, hy, rfl, h1, h2⟩
    · refine .inl ⟨rfl, fun y hy => ?_⟩
      rcases List.mem_cons.1 hy with rfl | hy
      · omega
      · exact h y hy
    · refine .inr ⟨y, List.mem_cons_of_mem _ hy, rfl, h1, fun z hz hlt => ?_⟩
      rcases List.mem_cons.1 hz with rfl | hz
      · omega
      · exact h2 z hz hlt

theorem blw_cons {S : List Nat} {x : Nat} {k r : Int} (h : IsBlw S k r) (hx : ∀ y ∈ S, x < y) : IsBlw (x :: S) k (if (x : Int) < k ∧ r = -1 then (x : Int) else r) := by
  split
  · rename_i hk
    obtain ⟨hk, hr⟩ := hk
    rcases h with ⟨_, h⟩ | ⟨y, hy, e, h1, h2⟩
    · refine .inr ⟨x, List.mem_cons_self, rfl, hk, fun y hy hlt => ?_⟩
      rcases List.mem_cons.1 hy with rfl | hy
      · exact Nat.le_refl _
      · have := h y hy; omega
    · omega
  · rename_i hk
    rcases h with ⟨rfl, h⟩ | ⟨y, hy, rfl, h1, h2⟩
    · refine .inl ⟨rfl, fun y hy => ?_⟩
      rcases List.mem_cons.1 hy with rfl | hy
      · have : ¬ ((y : Int) < k) := fun e => hk ⟨e, rfl⟩
        omega
      · exact h y hy
    · refine .inr ⟨y, List.mem_cons_of_mem _ hy, rfl, h1, fun z hz hlt => ?_⟩
      rcases List.mem_cons.1 hz with rfl | hz
      · exact Nat.le_of_lt (hx y hy)
      · exact h2 z hz hlt

/-- what finds has seen of the list from m on. -/
structure SeenK (L : List Nat) (k : Int) (m : Nat) (ab be : Int) (is : Bool) : Prop where
  ab : IsAbv (L.drop m) k ab
  be : IsBlw (L.drop m) k be
  is : is = true ↔ ∃ y ∈ L.drop m, (y : Int) = k

theorem seen_start (L : List Nat) (k : Int) : SeenK L k L.length (-1) (-1) false :=
  ⟨by rw [List.drop_length]; exact IsAbv.nil k, by rw [List.drop_length]; exact IsBlw.nil k, by rw [List.drop_length]; simp⟩

theorem seen_step {L : List Nat} {n : Nat} (hb : Bounds L n) {k : Int} {j : Nat} (hj : j < L.length) {ab be : Int} {is : Bool} (h : SeenK L k (j + 1) ab be is) :
    SeenK L k j (if k < (L[j] : Int) then (L[j] : Int) else ab) (if (L[j] : Int) < k ∧ be = -1 then (L[j] : Int) else be) (is || decide ((L[j] : Int) = k)) := by
  have hd : L.drop j = L[j] :: L.drop (j + 1) := List.drop_eq_getElem_cons hj
  have hx : ∀ y ∈ L.drop (j + 1), L[j] < y := by
    intro y hy
    obtain ⟨i, hi, rfl⟩ := List.mem_iff_getElem.1 hy
    simp at hi
    rw [List.getElem_drop]
    exact bounds_mono hb hj (by omega) (by omega)
  refine ⟨by rw [hd]; exact abv_cons h.ab hx, by rw [hd]; exact blw_cons h.be hx, ?_⟩
  rw [hd, Bool.or_eq_true, h.is, decide_eq_true_iff]
  constructor
  · rintro (⟨y, hy, e⟩ | e)
    · exact ⟨y, List.mem_cons_of_mem _ hy, e⟩
    · exact ⟨L[j], List.mem_cons_self, e⟩
  · rintro ⟨y, hy, e⟩
    rcases List.mem_cons.1 hy with rfl | hy
    · exact .inr e
    · exact .inl ⟨y, hy, e⟩

theorem seen_all {L : List Nat} {k : Int} {ab be : Int} {is : Bool} (h : SeenK L k 0 ab be is) : IsAbv L k ab ∧ IsBlw L k be ∧ (is = true ↔ ∃ y ∈ L, (y : Int) = k) := by
  have := h
  rw [show L = L.drop 0 from rfl]
  exact ⟨h.ab, h.be, h.is⟩

/-! which of the boundaries Following and Preceding go to -/
/-- the first boundary above k stands at i; or none does and i is the last place. -/
def FolAt (L : List Nat) (k : Int) (i : Nat) : Prop := i < L.length ∧ (∀ j (h : j < L.length), j < i → (L[j] : Int) ≤ k) ∧ (i + 1 = L.length ∨ ∃ h : i < L.length, k < (L[i] : Int))
def PreAt (L : List Nat) (k : Int) (i : Nat) : Prop := i < L.length ∧ (∀ j (h : j < L.length), i < j → k ≤ (L[j] : Int)) ∧ (i = 0 ∨ ∃ h : i < L.length, (L[i] : Int) < k)

theorem fol_at {D : Dic} {t : ByteArray} {L : List Nat} (hb : Bounds L t.size) {k : Int} {i : Nat} (h : FolAt L k i) (a : Nat) : ∃ r, MoveIs D t L a 5 k r (L[i]'h.1) := by
  obtain ⟨hi, h1, h2⟩ := h
  by_cases hk : k < (L[i] : Int)
  · refine ⟨L[i], .inr ⟨by decide, L[i], ?_, by unfold goesTo; rw [if_pos (by omega)], by rw [if_neg (by decide)]⟩⟩
    unfold WantsTo
    simp
    refine .inr ⟨L[i], List.getElem_mem hi, rfl, hk, fun y hy hlt => ?_⟩
    obtain ⟨j, hj, rfl⟩ := List.mem_iff_getElem.1 hy
    rcases Nat.lt_or_ge j i with x | x
    · have := h1 j hj x; omega
    · rcases Nat.lt_or_ge i j with z | z
      · exact Nat.le_of_lt (bounds_mono hb hi hj z)
      · obtain rfl : i = j := by omega
        exact Nat.le_refl _
  · have hl : i + 1 = L.length := by
      rcases h2 with h2 | ⟨_, h2⟩
      · exact h2
      · exact absurd h2 hk
    have hn : L[i] = t.size := by
      have := bounds_end hb (by omega)
      have e : i = L.length - 1 := by omega
      subst e; exact this
    refine ⟨-1, .inr ⟨by decide, -1, ?_, by unfold goesTo; simp; omega, by rw [if_neg (by decide)]⟩⟩
    unfold WantsTo
    simp
    refine .inl ⟨rfl, fun y hy => ?_⟩
    have := hb.le y hy
    omega

theorem pre_at {D : Dic} {t : ByteArray} {L : List Nat} (hb : Bounds L t.size) {k : Int} {i : Nat} (h : PreAt L k i) (a : Nat) : ∃ r, MoveIs D t L a 6 k r (L[i]'h.1) := by
  obtain ⟨hi, h1, h2⟩ := h
  by_cases hk : (L[i] : Int) < k
  · refine ⟨L[i], .inr ⟨by decide, L[i], ?_, by unfold goesTo; rw [if_pos (by omega)], by rw [if_neg (by decide)]⟩⟩
    unfold WantsTo
    simp
    refine .inr ⟨L[i], List.getElem_mem hi, rfl, hk, fun y hy hlt => ?_⟩
    obtain ⟨j, hj, rfl⟩ := List.mem_iff_getElem.1 hy
    rcases Nat.lt_or_ge i j with x | x
    · have := h1 j hj x; omega
    · rcases Nat.lt_or_ge j i with z | z
      · exact Nat.le_of_lt (bounds_mono hb hj hi z)
      · obtain rfl : i = j := by omega
        exact Nat.le_refl _
  · have hl : i = 0 := by
      rcases h2 with h2 | ⟨_, h2⟩
      · exact h2
      · exact absurd h2 hk
    subst hl
    have hn : L[0] = 0 := bounds_first hb hi
    refine ⟨-1, .inr ⟨by decide, -1, ?_, by unfold goesTo; simp; omega, by rw [if_neg (by decide)]⟩⟩
    unfold WantsTo
    simp
    refine .inl ⟨rfl, fun y hy => ?_⟩
    omega

theorem fol_le {L : List Nat} {n : Nat} (hb : Bounds L n) {k : Int} {m : Nat} (hm : m < L.length) (h : m = 0 ∨ ∃ h : m - 1 < L.length, (L[m - 1] : Int) ≤ k) : ∀ j (hj : j < L.length), j < m → (L[j] : Int) ≤ k := by
  intro j hj hlt
  rcases h with h | ⟨h1, h2⟩
  · omega
  · rcases Nat.lt_or_ge j (m - 1) with x | x
    · have := bounds_mono hb hj h1 x; omega
    · obtain rfl : j = m - 1 := by omega
      exact h2

theorem pre_le {L : List Nat} {n : Nat} (hb : Bounds L n) {k : Int} {m : Nat} (hm : m < L.length) (h : m + 1 = L.length ∨ ∃ h : m + 1 < L.length, k ≤ (L[m + 1] : Int)) : ∀ j (hj : j < L.length), m < j → k ≤ (L[j] : Int) := by
  intro j hj hlt
  rcases h with h | ⟨h1, h2⟩
  · omega
  · rcases Nat.lt_or_ge (m + 1) j with x | x
    · have := bounds_mono hb h1 hj x; omega
    · obtain rfl : j = m + 1 := by omega
      exact h2

theorem fol_from {L : List Nat} {n : Nat} (hb : Bounds L n) (k : Int) : ∀ m (hm : m < L.length), (m + 1 = L.length ∨ ∃ h : m < L.length, k < (L[m] : Int)) → ∃ i, FolAt L k i
  | 0, hm, h => ⟨0, hm, fun j _ hj => by omega, h⟩
  | m + 1, hm, h => by
    by_cases hk : k < (L[m]'(by omega) : Int)
    · exact fol_from hb k m (by omega) (.inr ⟨by omega, hk⟩)
    · exact ⟨m + 1, hm, fol_le hb hm (.inr ⟨by omega, by simp; omega⟩), h⟩

theorem fol_exists {L : List Nat} {n : Nat} (hb : Bounds L n) (k : Int) : ∃ i, FolAt L k i := by
  have hpos : 0 < L.length := List.length_pos_of_mem hb.zero
  exact fol_from hb k (L.length - 1) (by omega) (.inl (by omega))

theorem pre_from {L : List Nat} {n : Nat} (hb : Bounds L n) (k : Int) : ∀ d m (hm : m < L.length), L.length - m = d → (m = 0 ∨ ∃ h : m < L.length, (L[m] : Int) < k) → ∃ i, PreAt L k i := by
  intro d
  induction d with
  | zero => intro m hm hd; omega
  | succ d ih =>
    intro m hm hd h
    by_cases hl : m + 1 < L.length
    · by_cases hk : (L[m + 1] : Int) < k
      · exact ih (m + 1) hl (by rw [Nat.sub_add_eq, hd]; rfl) (.inr ⟨hl, hk⟩)
      · exact ⟨m, hm, pre_le hb hm (.inr ⟨hl, by omega⟩), h⟩
    · exact ⟨m, hm, fun j hj hlt => by omega, h⟩

theorem pre_exists {L : List Nat} {n : Nat} (hb : Bounds L n) (k : Int) : ∃ i, PreAt L k i := by
  have hpos : 0 < L.length := List.length_pos_of_mem hb.zero
  exact pre_from hb k _ 0 hpos rfl (.inl rfl)

theorem FolAt.one {L : List Nat} {k : Int} {i j : Nat} (h : FolAt L k i) (h' : FolAt L k j) : i = j := by
  obtain ⟨a1, a2, a3⟩ := h
  obtain ⟨b1, b2, b3⟩ := h'
  rcases Nat.lt_or_ge i j with x | x
  · have := b2 i a1 x
    rcases a3 with a3 | ⟨_, a3⟩ <;> omega
  · rcases Nat.lt_or_ge j i with y | y
    · have := a2 j b1 y
      rcases b3 with b3 | ⟨_, b3⟩ <;> omega
    · omega

theorem PreAt.one {L : List Nat} {k : Int} {i j : Nat} (h : PreAt L k i) (h' : PreAt L k j) : i = j := by
  obtain ⟨a1, a2, a3⟩ := h
  obtain ⟨b1, b2, b3⟩ := h'
  rcases Nat.lt_or_ge i j with x | x
  · have := a2 j b1 x
    rcases b3 with b3 | ⟨_, b3⟩ <;> omega
  · rcases Nat.lt_or_ge j i with y | y
    · have := b2 i a1 y
      rcases a3 with a3 | ⟨_, a3⟩ <;> omega
    · omega

/-- what Previous answers at the place i of the list, and Next. -/
def prevR (L : List Nat) (i : Nat) : Int := if h : 0 < i ∧ i < L.length then (L[i - 1]'(by omega) : Nat) else -1
def nextR (L : List Nat) (i : Nat) : Int := if h : i + 1 < L.length then (L[i + 1] : Nat) else -1

theorem prev_at (D : Dic) {t : ByteArray} {L : List Nat} (hb : Bounds L t.size) {i : Nat} (hi : i < L.length) : ∃ a', MoveIs D t L L[i] 4 0 (prevR L i) a' := by
  cases i with
  | zero =>
    refine ⟨0, ?_⟩
    have e : L[0] = 0 := bounds_first hb hi
    rw [e]
    have : prevR L 0 = -1 := by unfold prevR; rw [dif_neg (by omega)]
    rw [this]
    exact prev_end D t L
  | succ i =>
    refine ⟨L[i], ?_⟩
    have : prevR L (i + 1) = (L[i] : Nat) := by unfold prevR; rw [dif_pos ⟨by omega, hi⟩]; simp
    rw [this]
    exact prev_is D hb hi

theorem next_at (D : Dic) {t : ByteArray} {L : List Nat} (hb : Bounds L t.size) {i : Nat} (hi : i < L.length) : ∃ a', MoveIs D t L L[i] 3 0 (nextR L i) a' := by
  by_cases h : i + 1 < L.length
  · refine ⟨L[i + 1], ?_⟩
    have : nextR L i = (L[i + 1] : Nat) := by unfold nextR; rw [dif_pos h]
    rw [this]
    exact next_is D hb h
  · refine ⟨t.size, ?_⟩
    have e : L[i] = t.size := by
      have := bounds_end hb (by omega)
      have e : i = L.length - 1 := by omega
      subst e; exact this
    have : nextR L i = -1 := by unfold nextR; rw [dif_neg h]
    rw [e, this]
    exact next_end D hb

end Go.Proofs.YtlfpepehngkehabDoor
/-
  Plain mathematics: what a walk answers that keeps the place of its boundary in the list.
-/
namespace Go.Proofs.YtlfpepehngkehabDoor
set_option linter.unusedSimpArgs false
set_option linter.unusedVariables false

variable {D : Dic} {t : ByteArray} {l : List Nat}

theorem abv_at {n : Nat} (hb : Bounds l n) {k : Int} {i : Nat} (hi : i < l.length) (h1 : ∀ j (h : j < l.length), j < i → (l[j] : Int) ≤ k) (h2 : k < (l[i] : Int)) : IsAbv l k (l[i] : Nat) := by
  refine .inr ⟨l[i], List.getElem_mem hi, rfl, h2, fun y hy hk => ?_⟩
  obtain ⟨j, hj, rfl⟩ := List.mem_iff_getElem.1 hy
  rcases Nat.lt_trichotomy j i with x | x | x
  · have := h1 j hj x; omega
  · subst x; exact Nat.le_refl _
  · have := bounds_mono hb hi hj x; omega

theorem abv_no {k : Int} (h : ∀ j (h : j < l.length), (l[j] : Int) ≤ k) : IsAbv l k (-1) := .inl ⟨rfl, fun x hx => by
  obtain ⟨j, hj, rfl⟩ := List.mem_iff_getElem.1 hx
  exact h j hj⟩

theorem blw_at {n : Nat} (hb : Bounds l n) {k : Int} {i : Nat} (hi : i < l.length) (h1 : ∀ j (h : j < l.length), i < j → k ≤ (l[j] : Int)) (h2 : (l[i] : Int) < k) : IsBlw l k (l[i] : Nat) := by
  refine .inr ⟨l[i], List.getElem_mem hi, rfl, h2, fun y hy hk => ?_⟩
  obtain ⟨j, hj, rfl⟩ := List.mem_iff_getElem.1 hy
  rcases Nat.lt_trichotomy j i with x | x | x
  · have := bounds_mono hb hj hi x; omega
  · subst x; exact Nat.le_refl _
  · have := h1 j hj x; omega

theorem blw_no {k : Int} (h : ∀ j (h : j < l.length), k ≤ (l[j] : Int)) : IsBlw l k (-1) := .inl ⟨rfl, fun x hx => by
  obtain ⟨j, hj, rfl⟩ := List.mem_iff_getElem.1 hx
  exact h j hj⟩

/-! the calls -/
theorem mv_place (a : Nat) : MoveIs D t l a 0 0 a a := .inr ⟨by decide, a, by simp [WantsTo], by simp [goesTo], by simp⟩
theorem mv_first (a : Nat) : MoveIs D t l a 1 0 0 0 := .inr ⟨by decide, 0, by simp [WantsTo], by simp [goesTo], by simp⟩
theorem mv_last (a : Nat) : MoveIs D t l a 2 0 t.size t.size := .inr ⟨by decide, t.size, by simp [WantsTo], by simp [goesTo], by simp⟩

theorem mv_next (hb : Bounds l t.size) {i : Nat} (hi : i + 1 < l.length) : MoveIs D t l (l[i]'(by omega)) 3 0 (l[i + 1] : Nat) l[i + 1] :=
  .inr ⟨by decide, _, by simp only [WantsTo]; exact abv_next hb hi, by simp [goesTo], by simp⟩

theorem mv_next_no (hb : Bounds l t.size) {i : Nat} (hi : i < l.length) (he : i + 1 = l.length) : MoveIs D t l l[i] 3 0 (-1) l[i] := by
  have h : IsAbv l (l[i] : Nat) (-1) := abv_no fun j hj => by
    by_cases e : j = i
    · subst e; exact Int.le_refl _
    · have := bounds_mono hb hj hi (by omega); omega
  exact .inr ⟨by decide, -1, by simp only [WantsTo]; exact h, by simp [goesTo], by simp⟩

theorem mv_prev (hb : Bounds l t.size) {i : Nat} (hi : i + 1 < l.length) : MoveIs D t l l[i + 1] 4 0 (l[i]'(by omega) : Nat) (l[i]'(by omega)) := by
  exact prev_is D hb hi

theorem mv_prev_no (hb : Bounds l t.size) (h0 : 0 < l.length) : MoveIs D t l l[0] 4 0 (-1) l[0] := by
  have h : IsBlw l (l[0] : Nat) (-1) := blw_no fun j hj => by
    by_cases e : j = 0
    · subst e; exact Int.le_refl _
    · have := bounds_mono hb h0 hj (by omega); omega
  exact .inr ⟨by decide, -1, by simp only [WantsTo]; exact h, by simp [goesTo], by simp⟩

theorem mv_fol (hb : Bounds l t.size) (a : Nat) {k : Int} {i : Nat} (hi : i < l.length) (h1 : ∀ j (h : j < l.length), j < i → (l[j] : Int) ≤ k) (h2 : k < (l[i] : Int)) : MoveIs D t l a 5 k (l[i] : Nat) l[i] :=
  .inr ⟨by decide, _, by simp only [WantsTo]; exact abv_at hb hi h1 h2, by simp [goesTo], by simp⟩
theorem mv_fol_no (a : Nat) {k : Int} (h : ∀ j (h : j < l.length), (l[j] : Int) ≤ k) : MoveIs D t l a 5 k (-1) t.size :=
  .inr ⟨by decide, _, by simp only [WantsTo]; exact abv_no h, by simp [goesTo], by simp⟩
theorem mv_pre (hb : Bounds l t.size) (a : Nat) {k : Int} {i : Nat} (hi : i < l.length) (h1 : ∀ j (h : j < l.length), i < j → k ≤ (l[j] : Int)) (h2 : (l[i] : Int) < k) : MoveIs D t l a 6 k (l[i] : Nat) l[i] :=
  .inr ⟨by decide, _, by simp only [WantsTo]; exact blw_at hb hi h1 h2, by simp [goesTo], by simp⟩
theorem mv_pre_no (a : Nat) {k : Int} (h : ∀ j (h : j < l.length), k ≤ (l[j] : Int)) : MoveIs D t l a 6 k (-1) 0 :=
  .inr ⟨by decide, _, by simp only [WantsTo]; exact blw_no h, by simp [goesTo], by simp⟩

/-- the first boundary that is not below k: where Is goes. -/
theorem mv_is (hb : Bounds l t.size) (a : Nat) {k : Int} {i : Nat} (hi : i < l.length) (h1 : ∀ j (h : j < l.length), j < i → (l[j] : Int) < k) (h2 : k ≤ (l[i] : Int)) : MoveIs D t l a 7 k (if decide ((l[i] : Int) = k) then 1 else 0) l[i] := by
  have hz := hb.zero
  by_cases hk : 0 < k
  · refine .inr ⟨by decide, (l[i] : Nat), by simp [WantsTo, hk]; exact abv_at hb hi (fun j hj h => by have := h1 j hj h; omega) (by omega), by simp [goesTo], ?_⟩
    have : (0 : Int) ≤ k := by omega
    simp [this]
  · have hi0 : i = 0 := by
      by_cases e : i = 0
      · exact e
      · have := h1 0 (by omega) (by omega); omega
    subst hi0
    have hl0 := bounds_first hb hi
    by_cases h0 : k = 0
    · refine .inr ⟨by decide, (l[0] : Nat), by simp [WantsTo, h0]; exact hl0, by simp [goesTo], ?_⟩
      simp [h0]
    · refine .inr ⟨by decide, (l[0] : Nat), by simp [WantsTo, hk, h0]; exact abv_at hb hi (fun j hj h => by omega) (by omega), by simp [goesTo], ?_⟩
      have : ¬ ((l[0] : Int) = k) := by omega
      simp [this]

theorem mv_is_no (hb : Bounds l t.size) (a : Nat) {k : Int} (h : ∀ j (h : j < l.length), (l[j] : Int) < k) : MoveIs D t l a 7 k 0 t.size := by
  have hk : 0 < k := by
    obtain ⟨j, hj, e⟩ := List.mem_iff_getElem.1 hb.zero
    have := h j hj
    rw [e] at this
    omega
  refine .inr ⟨by decide, -1, by simp [WantsTo, hk]; exact abv_no (fun j hj => by have := h j hj; omega), by simp [goesTo], ?_⟩
  have : ¬ ((-1 : Int) = k) := by omega
  simp [this]

theorem mv_kind_zero : MoveIs D t l 0 8 0 0 0 := .inl ⟨rfl, .inl ⟨rfl, rfl⟩, rfl⟩
theorem mv_kind (hb : Bounds l t.size) {i : Nat} (hi : i + 1 < l.length) : MoveIs D t l l[i + 1] 8 0 (kd D t (l[i]'(by omega)) l[i + 1]) l[i + 1] := by
  have hlt := bounds_mono hb (show i < l.length by omega) hi (by omega)
  refine .inl ⟨rfl, .inr ⟨by omega, l[i]'(by omega), blw_at hb (show i < l.length by omega) (fun j hj h => ?_) (by omega), rfl⟩, rfl⟩
  by_cases e : j = i + 1
  · subst e; exact Int.le_refl _
  · have := bounds_mono hb hi hj (by omega); omega

end Go.Proofs.YtlfpepehngkehabDoor
