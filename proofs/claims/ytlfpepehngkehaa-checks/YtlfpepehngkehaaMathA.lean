/-
  Plain mathematics of lists, bytes and the form of a list. Imports nothing of the dump.
-/
namespace Go.Proofs.Ytlfpepehngkehaa
set_option linter.unusedSimpArgs false
set_option linter.unusedVariables false

/-- the byte at a place of a text, as a number; nought behind the end. -/
def bt (s : ByteArray) (i : Nat) : Nat := (s.data.toList.getD i 0).toNat

theorem bt_lt (s : ByteArray) (i : Nat) : bt s i < 256 := by unfold bt; exact UInt8.toNat_lt _

theorem bt_get (s : ByteArray) (i : Nat) (h : i < s.size) : s[i].toNat = bt s i := by
  unfold bt
  have h' : i < s.data.toList.length := by simpa using h
  rw [List.getD_eq_getElem?_getD, List.getElem?_eq_getElem h', Option.getD_some]
  rfl

theorem bt_extract (s : ByteArray) (a b i : Nat) (h : i < b - a) (hb : b ≤ s.size) : bt (s.extract a b) i = bt s (a + i) := by
  have h1 : i < (s.extract a b).size := by simp; omega
  have h2 : a + i < s.size := by omega
  rw [← bt_get _ _ h1, ← bt_get _ _ h2]
  simp [ByteArray.getElem_extract]

/-- the sort of a byte. -/
def srt (c : Nat) : Nat :=
  if 97 ≤ c ∧ c ≤ 122 then 1 else if 65 ≤ c ∧ c ≤ 90 then 2 else if 48 ≤ c ∧ c ≤ 57 then 3 else if c = 126 then 4 else if c = 32 then 5 else 0

theorem srt_le (c : Nat) : srt c ≤ 5 := by unfold srt; repeat (split <;> try omega)
theorem srt_1 {c : Nat} : srt c = 1 ↔ 97 ≤ c ∧ c ≤ 122 := by unfold srt; repeat (split <;> try omega)
theorem srt_2 {c : Nat} : srt c = 2 ↔ 65 ≤ c ∧ c ≤ 90 := by unfold srt; repeat (split <;> try omega)
theorem srt_3 {c : Nat} : srt c = 3 ↔ 48 ≤ c ∧ c ≤ 57 := by unfold srt; repeat (split <;> try omega)
theorem srt_4 {c : Nat} : srt c = 4 ↔ c = 126 := by unfold srt; repeat (split <;> try omega)

/-- a word of n bytes stands at k, as far as it can. -/
def WordAt (s : ByteArray) (k n : Nat) : Prop :=
  (n = 0 ∧ (s.size ≤ k ∨ (srt (bt s k) ≠ 1 ∧ srt (bt s k) ≠ 2))) ∨
  (1 ≤ n ∧ n ≤ 12 ∧ k + n ≤ s.size ∧ (srt (bt s k) = 1 ∨ srt (bt s k) = 2) ∧ (∀ j, k < j → j < k + n → srt (bt s j) = srt (bt s k) ∨ srt (bt s j) = 4) ∧
    (k + n = s.size ∨ n = 12 ∨ (srt (bt s (k + n)) ≠ srt (bt s k) ∧ srt (bt s (k + n)) ≠ 4)))

/-- n digits stand at k, as far as they can, four at most. -/
def DigitsAt (s : ByteArray) (k n : Nat) : Prop :=
  n ≤ 4 ∧ k + n ≤ s.size ∧ (∀ j, k ≤ j → j < k + n → srt (bt s j) = 3) ∧ (k + n = s.size ∨ n = 4 ∨ srt (bt s (k + n)) ≠ 3)

/-- the number that n digits at k write. -/
def num (s : ByteArray) (k : Nat) : Nat → Nat
  | 0 => 0
  | n + 1 => 10 * num s k n + (bt s (k + n) - 48)

theorem num_le (s : ByteArray) (k n : Nat) (h : ∀ j, k ≤ j → j < k + n → srt (bt s j) = 3) : num s k n + 1 ≤ 10 ^ n := by
  induction n with
  | zero => simp [num]
  | succ n ih =>
    have h1 := ih fun j hj hj' => h j hj (by omega)
    have h2 := srt_3.1 (h (k + n) (by omega) (by omega))
    simp only [num, Nat.pow_succ]
    omega

theorem num_4 (s : ByteArray) (k n : Nat) (hn : n ≤ 4) (h : ∀ j, k ≤ j → j < k + n → srt (bt s j) = 3) : num s k n ≤ 9999 := by
  have h1 := num_le s k n h
  have h2 : 10 ^ n ≤ 10 ^ 4 := Nat.pow_le_pow_right (by omega) hn
  have h3 : (10 : Nat) ^ 4 = 10000 := rfl
  omega

theorem num_extract (s : ByteArray) (a b n : Nat) (h : n ≤ b - a) (hb : b ≤ s.size) : num (s.extract a b) 0 n = num s a n := by
  induction n with
  | zero => rfl
  | succ n ih =>
    simp only [num, Nat.zero_add]
    rw [ih (by omega), bt_extract _ _ _ _ (by omega) hb]

/-- what a list says of one word. -/
structure Ent where
  word : ByteArray
  inn : Bool
  cost : Nat
  dig : Nat

def GoodEntry (s : ByteArray) (k : Nat) (x : Ent) (p : Nat) : Prop :=
  ∃ n, WordAt s k n ∧ 1 ≤ n ∧ k + n < s.size ∧ x.word = s.extract k (k + n) ∧
    ((bt s (k + n) = 33 ∧ x.inn = false ∧ x.cost = 0 ∧ x.dig = 0 ∧ p = k + n + 1) ∨
     (bt s (k + n) = 61 ∧ ∃ m, 1 ≤ m ∧ DigitsAt s (k + n + 1) m ∧ x.inn = true ∧ x.cost = num s (k + n + 1) m ∧ x.dig = k + n + 1 ∧ p = k + n + 1 + m))

def BadEntry (s : ByteArray) (k p : Nat) : Prop :=
  ∃ n, WordAt s k n ∧ (((n = 0 ∨ k + n = s.size) ∧ p = k + n) ∨ (1 ≤ n ∧ k + n < s.size ∧ bt s (k + n) ≠ 33 ∧ bt s (k + n) ≠ 61 ∧ p = k + n) ∨
    (1 ≤ n ∧ k + n < s.size ∧ bt s (k + n) = 61 ∧ DigitsAt s (k + n + 1) 0 ∧ p = k + n + 1))

theorem WordAt.le {s : ByteArray} {k n : Nat} (h : WordAt s k n) : n ≤ 12 ∧ (1 ≤ n → k + n ≤ s.size) := by
  rcases h with ⟨rfl, _⟩ | ⟨h1, h2, h3, _⟩
  · omega
  · omega

theorem DigitsAt.le {s : ByteArray} {k n : Nat} (h : DigitsAt s k n) : n ≤ 4 ∧ k + n ≤ s.size := ⟨h.1, h.2.1⟩

/-- the entries E, each with a comma behind it, lead from k to q. -/
def Chain (s : ByteArray) : Nat → List Ent → Nat → Prop
  | k, [], q => q = k
  | k, x :: E, q => ∃ p, GoodEntry s k x p ∧ p < s.size ∧ bt s p = 44 ∧ Chain s (p + 1) E q

theorem Chain.snoc {s : ByteArray} {x : Ent} {p q : Nat} : ∀ {E : List Ent} {k : Nat}, Chain s k E q → GoodEntry s q x p → p < s.size → bt s p = 44 → Chain s k (E ++ [x]) (p + 1)
  | [], k, h, hg, hp, hb => by cases h; exact ⟨p, hg, hp, hb, rfl⟩
  | y :: E, k, h, hg, hp, hb => by
    obtain ⟨r, h1, h2, h3, h4⟩ := h
    exact ⟨r, h1, h2, h3, Chain.snoc h4 hg hp hb⟩

def GoodList (s : ByteArray) (E : List Ent) : Prop :=
  (E = [] ∧ s.size = 0) ∨ ∃ E' x q, E = E' ++ [x] ∧ Chain s 0 E' q ∧ GoodEntry s q x s.size

def BadList (s : ByteArray) (p : Nat) : Prop :=
  ∃ E q, Chain s 0 E q ∧ ((q < s.size ∧ BadEntry s q p) ∨ (∃ x, GoodEntry s q x p ∧ p < s.size ∧ bt s p ≠ 44) ∨ (q = s.size ∧ q ≠ 0 ∧ p = q))

theorem GoodEntry.le {s : ByteArray} {k p : Nat} {x : Ent} (h : GoodEntry s k x p) : k + 2 ≤ p ∧ p ≤ s.size ∧ x.cost ≤ 9999 ∧ x.dig ≤ s.size := by
  obtain ⟨n, hw, h1, h2, _, h3⟩ := h
  rcases h3 with ⟨_, _, h4, h5, h6⟩ | ⟨_, m, h3, h4, _, h5, h6, h7⟩
  · omega
  · have h8 := h4.le
    have h9 := num_4 s (k + n + 1) m h8.1 h4.2.2.1
    omega

theorem BadEntry.le {s : ByteArray} {k p : Nat} (h : BadEntry s k p) (hk : k ≤ s.size) : k ≤ p ∧ p ≤ s.size := by
  obtain ⟨n, hw, h3⟩ := h
  have h1 := hw.le
  rcases h3 with ⟨h4, h5⟩ | ⟨h2, h4, _, _, h5⟩ | ⟨h2, h4, _, _, h5⟩
  · rcases h4 with h | h <;> omega
  · omega
  · omega

end Go.Proofs.Ytlfpepehngkehaa
