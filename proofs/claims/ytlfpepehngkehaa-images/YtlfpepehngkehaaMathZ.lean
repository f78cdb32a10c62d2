/-
  Plain mathematics: what the program's reader takes.
-/
import Derived.Test.YtlfpepehngkehaaMathX
namespace Go.Proofs.Ytlfpepehngkehaa
set_option linter.unusedSimpArgs false
set_option linter.unusedVariables false

/-- a byte is taken at k: f: was the text too short before? -/
def TB (s : ByteArray) (k : Nat) (f : Bool) (n k' : Nat) (f' : Bool) : Prop :=
  (k < s.size ∧ n = bt s k ∧ k' = k + 1 ∧ f' = f) ∨ (s.size ≤ k ∧ n = 0 ∧ k' = k ∧ f' = true)
def TN (s : ByteArray) (k : Nat) (f : Bool) (c k' : Nat) (f' : Bool) : Prop :=
  ∃ n1 k1 f1 n2, TB s k f n1 k1 f1 ∧ TB s k1 f1 n2 k' f' ∧ c = n1 + 256 * n2
def TX (s : ByteArray) (k : Nat) (f : Bool) (n : Nat) (x : ByteArray) (k' : Nat) (f' : Bool) : Prop :=
  (k + n ≤ s.size ∧ x = s.extract k (k + n) ∧ k' = k + n ∧ f' = f) ∨ (s.size < k + n ∧ x = ByteArray.empty ∧ k' = k ∧ f' = true)

theorem TB.le {s : ByteArray} {k n k' : Nat} {f f' : Bool} (h : TB s k f n k' f') (hk : k ≤ s.size + 2) : n ≤ 255 ∧ k' ≤ s.size + 2 := by
  have := bt_lt s k
  rcases h with ⟨_, rfl, rfl, _⟩ | ⟨_, rfl, rfl, _⟩ <;> omega
theorem TN.le {s : ByteArray} {k c k' : Nat} {f f' : Bool} (h : TN s k f c k' f') (hk : k ≤ s.size + 2) : c ≤ 65535 ∧ k' ≤ s.size + 2 := by
  obtain ⟨n1, k1, f1, n2, h1, h2, rfl⟩ := h
  obtain ⟨a, b⟩ := h1.le hk
  obtain ⟨c, d⟩ := h2.le b
  omega
theorem TX.le {s : ByteArray} {k n k' : Nat} {x : ByteArray} {f f' : Bool} (h : TX s k f n x k' f') (hk : k ≤ s.size + 2) : x.size ≤ n ∧ k' ≤ s.size + 2 := by
  rcases h with ⟨a, rfl, rfl, _⟩ | ⟨a, rfl, rfl, _⟩
  · have : (s.extract k (k + n)).size = n := by simp; omega
    omega
  · have : ByteArray.empty.size = 0 := rfl
    omega

theorem TN.head {s : ByteArray} {c k' : Nat} {f' : Bool} (h : TN s 2 false c k' f') : (f' = false → 4 ≤ s.size ∧ c = bt s 2 + 256 * bt s 3 ∧ k' = 4) ∧ (f' = true → s.size < 4) := by
  obtain ⟨n1, k1, f1, n2, h1, h2, rfl⟩ := h
  rcases h1 with ⟨a, rfl, rfl, rfl⟩ | ⟨a, rfl, rfl, rfl⟩ <;> rcases h2 with ⟨b, rfl, rfl, rfl⟩ | ⟨b, rfl, rfl, rfl⟩
  · exact ⟨fun _ => ⟨by omega, rfl, rfl⟩, fun e => by cases e⟩
  · exact ⟨fun e => (by cases e), fun _ => by omega⟩
  · exact ⟨fun e => (by cases e), fun _ => by omega⟩
  · exact ⟨fun e => (by cases e), fun _ => by omega⟩

theorem TB.stay {s : ByteArray} {k n k' : Nat} {f' : Bool} (h : TB s k true n k' f') : f' = true := by rcases h with ⟨_, _, _, h⟩ | ⟨_, _, _, h⟩ <;> exact h
theorem TX.stay {s : ByteArray} {k n k' : Nat} {x : ByteArray} {f' : Bool} (h : TX s k true n x k' f') : f' = true := by rcases h with ⟨_, _, _, h⟩ | ⟨_, _, _, h⟩ <;> exact h
theorem TN.stay {s : ByteArray} {k c k' : Nat} {f' : Bool} (h : TN s k true c k' f') : f' = true := by
  obtain ⟨_, _, f1, _, h1, h2, _⟩ := h
  obtain rfl := h1.stay
  exact h2.stay

theorem took {s : ByteArray} {k n1 k1 n2 k2 k3 c k4 : Nat} {f1 f2 f3 f4 : Bool} {x : ByteArray} (h1 : TB s k false n1 k1 f1) (h2 : TB s k1 f1 n2 k2 f2) (h3 : TX s k2 f2 n2 x k3 f3) (h4 : TN s k3 f3 c k4 f4) :
    (f4 = false → n1 = bt s k ∧ x = s.extract (k + 2) (k + 2 + bt s (k + 1)) ∧ c = bt s (k + 2 + bt s (k + 1)) + 256 * bt s (k + 2 + bt s (k + 1) + 1) ∧ k4 = k + 2 + bt s (k + 1) + 2 ∧ k4 ≤ s.size) ∧
    (f4 = true → s.size < k + 2 + bt s (k + 1) + 2) := by
  rcases h1 with ⟨a1, rfl, rfl, rfl⟩ | ⟨a1, rfl, rfl, rfl⟩
  · rcases h2 with ⟨a2, rfl, rfl, rfl⟩ | ⟨a2, rfl, rfl, rfl⟩
    · rcases h3 with ⟨a3, rfl, rfl, rfl⟩ | ⟨a3, rfl, rfl, rfl⟩
      · obtain ⟨m1, j1, g1, m2, h4, h5, rfl⟩ := h4
        rcases h4 with ⟨a4, rfl, rfl, rfl⟩ | ⟨a4, rfl, rfl, rfl⟩
        · rcases h5 with ⟨a5, rfl, rfl, rfl⟩ | ⟨a5, rfl, rfl, rfl⟩
          · exact ⟨fun _ => ⟨rfl, rfl, rfl, rfl, by omega⟩, fun e => by cases e⟩
          · exact ⟨fun e => (by cases e), fun _ => by omega⟩
        · obtain rfl := h5.stay
          exact ⟨fun e => (by cases e), fun _ => by omega⟩
      · obtain rfl := h4.stay
        exact ⟨fun e => (by cases e), fun _ => by omega⟩
    · obtain rfl := h3.stay
      obtain rfl := h4.stay
      exact ⟨fun e => (by cases e), fun _ => by omega⟩
  · obtain rfl := h2.stay
    obtain rfl := h3.stay
    obtain rfl := h4.stay
    exact ⟨fun e => (by cases e), fun _ => by omega⟩

theorem WordHere.same {s : ByteArray} {k : Nat} {ahead x x' : ByteArray} {c c' k' k'' : Nat} (h : WordHere s k ahead x c k') (h' : WordHere s k ahead x' c' k'') : x = x' ∧ c = c' := ⟨h.word.trans h'.word.symm, h.cost.trans h'.cost.symm⟩

/-- what takeWord answers. -/
def TakeEnd (s : ByteArray) (k : Nat) (ahead x : ByteArray) (c k' : Nat) (f : Bool) : Prop :=
  (f = true ∧ WordHere s k ahead x c k') ∨ (f = false ∧ ∀ x c k', ¬ WordHere s k ahead x c k')

theorem took_bad {s : ByteArray} {k n1 k1 n2 k2 k3 c k4 : Nat} {f1 f2 f3 f4 : Bool} {x ahead : ByteArray} (h1 : TB s k false n1 k1 f1) (h2 : TB s k1 f1 n2 k2 f2) (h3 : TX s k2 f2 n2 x k3 f3) (h4 : TN s k3 f3 c k4 f4)
    (hb : f4 = true ∨ ahead.size < n1 ∨ 1000 < c) : ∀ x c k', ¬ WordHere s k ahead x c k' := by
  intro x' c' k' h
  obtain ⟨hy, hn⟩ := took h1 h2 h3 h4
  cases f4 with
  | true => have := hn rfl; have := h.fit; omega
  | false =>
    obtain ⟨e1, e2, e3, e4, e5⟩ := hy rfl
    rcases hb with e | e | e
    · cases e
    · have := h.com; omega
    · have := h.low; have := h.cost; omega

theorem took_word {s : ByteArray} {k n1 k1 n2 k2 k3 c k4 : Nat} {f1 f2 f3 : Bool} {x ahead : ByteArray} (h1 : TB s k false n1 k1 f1) (h2 : TB s k1 f1 n2 k2 f2) (h3 : TX s k2 f2 n2 x k3 f3) (h4 : TN s k3 f3 c k4 false)
    (ha : n1 ≤ ahead.size) (hc : c ≤ 1000) {f : Bool} (hf : f = true ↔ IsWord (ahead.extract 0 n1 ++ x)) : TakeEnd s k ahead (ahead.extract 0 n1 ++ x) c k4 f := by
  obtain ⟨e1, e2, e3, e4, e5⟩ := (took h1 h2 h3 h4).1 rfl
  cases f with
  | true => exact .inl ⟨rfl, by omega, by omega, by rw [e1, e2], hf.1 rfl, e3, hc, e4⟩
  | false =>
    refine .inr ⟨rfl, fun x' c' k' h => ?_⟩
    have e : x' = ahead.extract 0 n1 ++ x := by rw [h.word, e1, e2]
    have := hf.2 (by rw [← e]; exact h.is)
    cases this

theorem word_unique {x : ByteArray} {n : Nat} (h : WordAt x 0 n) (h1 : 1 ≤ x.size) : n = x.size ↔ IsWord x := by
  rw [isWord_at]
  constructor
  · intro e; rw [e] at h; exact ⟨h1, h⟩
  · rintro ⟨_, h'⟩
    rcases h with ⟨e, a⟩ | ⟨a1, a2, a3, a4, a5, a6⟩
    · rcases h' with ⟨e', _⟩ | ⟨_, _, _, b4, _⟩
      · omega
      · rcases a with a | a
        · omega
        · omega
    · rcases h' with ⟨e', _⟩ | ⟨_, b2, _, _, b5, _⟩
      · omega
      · by_cases en : n = x.size
        · exact en
        · rcases a6 with a6 | a6 | a6
          · omega
          · omega
          · have := b5 (0 + n) (by omega) (by omega)
            omega

end Go.Proofs.Ytlfpepehngkehaa
