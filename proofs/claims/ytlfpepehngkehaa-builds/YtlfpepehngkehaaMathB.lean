/-
  Plain mathematics: the reference's automaton.
-/
import Derived.Test.YtlfpepehngkehaaMathA
namespace Go.Proofs.Ytlfpepehngkehaa
set_option linter.unusedSimpArgs false
set_option linter.unusedVariables false

/-! the reference: the form of a list by states -/
def smB (c : Nat) : Bool := decide (97 ≤ c ∧ c ≤ 122)
def cpB (c : Nat) : Bool := decide (65 ≤ c ∧ c ≤ 90)
def dgB (c : Nat) : Bool := decide (48 ≤ c ∧ c ≤ 57)

structure St where
  st : Nat
  n : Nat
  sm : Bool
  cost : Nat

def lts (f : St) (c : Nat) : St × Bool :=
  if (((c : Int) == 126 || (f.sm && smB c)) || (!f.sm && cpB c)) && decide (f.n < 12) then (⟨f.st, f.n + 1, f.sm, f.cost⟩, true)
  else if (c : Int) == 61 then (⟨3, 0, false, 0⟩, true) else if (c : Int) == 33 then (⟨5, 0, false, 0⟩, true) else (f, false)

def nxt (f : St) (c : Nat) : St × Bool :=
  if f.st = 0 ∨ f.st = 1 then (⟨2, 1, smB c, 0⟩, smB c || cpB c)
  else if f.st = 2 then lts f c
  else if f.st = 5 then (⟨1, 0, false, 0⟩, (c : Int) == 44)
  else if dgB c && decide (f.n < 4) then (⟨4, f.n + 1, false, 10 * f.cost + (c - 48)⟩, true)
  else (⟨1, 0, false, 0⟩, f.st == 4 && (c : Int) == 44)

theorem kinds (c : Nat) :
    (smB c = false ∧ cpB c = false ∧ ((c : Int) == 126) = true ∧ ((c : Int) == 61) = false ∧ ((c : Int) == 33) = false) ∨
    (smB c = false ∧ cpB c = false ∧ ((c : Int) == 126) = false ∧ ((c : Int) == 61) = true ∧ ((c : Int) == 33) = false) ∨
    (smB c = false ∧ cpB c = false ∧ ((c : Int) == 126) = false ∧ ((c : Int) == 61) = false ∧ ((c : Int) == 33) = true) ∨
    (smB c = true ∧ cpB c = false ∧ ((c : Int) == 126) = false ∧ ((c : Int) == 61) = false ∧ ((c : Int) == 33) = false) ∨
    (smB c = false ∧ cpB c = true ∧ ((c : Int) == 126) = false ∧ ((c : Int) == 61) = false ∧ ((c : Int) == 33) = false) ∨
    (smB c = false ∧ cpB c = false ∧ ((c : Int) == 126) = false ∧ ((c : Int) == 61) = false ∧ ((c : Int) == 33) = false) := by
  simp only [smB, cpB, beq_iff_eq, beq_eq_false_iff_ne, ne_eq, decide_eq_true_eq, decide_eq_false_iff_not]
  omega

/-- the state behind the first i bytes; none: one of them cannot stand there. -/
def stp (s : ByteArray) : Nat → Option St
  | 0 => some ⟨0, 0, false, 0⟩
  | i + 1 => match stp s i with
    | none => none
    | some f => if (nxt f (bt s i)).2 then some (nxt f (bt s i)).1 else none

theorem stp_succ {s : ByteArray} {i : Nat} {f : St} (h : stp s i = some f) : stp s (i + 1) = if (nxt f (bt s i)).2 then some (nxt f (bt s i)).1 else none := by
  simp only [stp, h]

/-- where the first digit of the first cost above its bound stands, within the first i bytes; -1: nowhere. -/
def hgh (s : ByteArray) : Nat → Int
  | 0 => -1
  | i + 1 => match stp s (i + 1) with
    | none => hgh s i
    | some f => if 1000 < f.cost ∧ hgh s i < 0 then (i : Int) - f.n + 1 else hgh s i

theorem hgh_succ {s : ByteArray} {i : Nat} {f : St} (h : stp s (i + 1) = some f) : hgh s (i + 1) = if 1000 < f.cost ∧ hgh s i < 0 then (i : Int) - f.n + 1 else hgh s i := by
  simp only [hgh, h]

def Inv (f : St) : Prop := f.st ≤ 5 ∧ f.n ≤ 12 ∧ (f.st = 4 → f.cost + 1 ≤ 10 ^ f.n ∧ f.n ≤ 4) ∧ (f.st ≠ 4 → f.cost = 0) ∧ (f.st = 3 → f.n = 0)

theorem dgB_iff {c : Nat} : dgB c = true ↔ 48 ≤ c ∧ c ≤ 57 := by simp [dgB]
theorem smB_iff {c : Nat} : smB c = true ↔ 97 ≤ c ∧ c ≤ 122 := by simp [smB]
theorem cpB_iff {c : Nat} : cpB c = true ↔ 65 ≤ c ∧ c ≤ 90 := by simp [cpB]

theorem Inv.next {f : St} {c : Nat} (h : Inv f) (hok : (nxt f c).2 = true) : Inv (nxt f c).1 := by
  obtain ⟨st, n, sm, cost⟩ := f
  obtain ⟨h1, h2, h3, h4, h5⟩ := h
  simp only at h1 h2 h3 h4 h5
  unfold nxt at hok ⊢
  simp only at hok ⊢
  split
  · simp [Inv]
  · rename_i ha
    rw [if_neg ha] at hok
    split
    · rename_i hb
      subst hb
      have hc := h4 (by omega)
      subst hc
      simp only [if_true] at hok
      unfold lts at hok ⊢
      simp only at hok ⊢
      split
      · rename_i hd
        simp only [Bool.and_eq_true, decide_eq_true_eq] at hd
        exact ⟨by simp, by simp; omega, by simp, by simp, by simp⟩
      · rename_i hd
        rw [if_neg hd] at hok
        split
        · simp [Inv]
        · rename_i he
          rw [if_neg he] at hok
          split
          · simp [Inv]
          · rename_i hf
            rw [if_neg hf] at hok
            simp at hok
    · split
      · simp [Inv]
      · rename_i hb hc
        split
        · rename_i hd
          simp only [Bool.and_eq_true, decide_eq_true_eq] at hd
          obtain ⟨hd1, hd2⟩ := hd
          rw [dgB_iff] at hd1
          refine ⟨by simp, by simp; omega, fun _ => ⟨?_, by simp; omega⟩, by simp, by simp⟩
          simp only
          by_cases e4 : st = 4
          · have := (h3 e4).1
            rw [Nat.pow_succ]
            omega
          · have := h4 e4
            have := h5 (by omega)
            subst this
            simp
            omega
        · simp [Inv]

theorem stp_inv (s : ByteArray) : ∀ i f, stp s i = some f → Inv f
  | 0, f, h => by simp [stp] at h; subst h; simp [Inv]
  | i + 1, f, h => by
    cases e : stp s i with
    | none => simp [stp, e] at h
    | some g =>
      rw [stp_succ e] at h
      have hg := stp_inv s i g e
      split at h
      · rename_i hok
        simp at h
        subst h
        exact hg.next hok
      · simp at h

theorem Inv.cost_le {f : St} (h : Inv f) : f.cost ≤ 9999 := by
  obtain ⟨h1, h2, h3, h4, h5⟩ := h
  by_cases e : f.st = 4
  · obtain ⟨a, b⟩ := h3 e
    have h2 : 10 ^ f.n ≤ 10 ^ 4 := Nat.pow_le_pow_right (by omega) b
    have h3 : (10 : Nat) ^ 4 = 10000 := rfl
    omega
  · rw [h4 e]; omega

def acc (f : St) : Prop := f.st = 0 ∨ f.st = 4 ∨ f.st = 5

/-- what the reference's Check answers. -/
def RefRes (s : ByteArray) (e p : Int) : Prop :=
  (2000 < s.size ∧ e = 1 ∧ p = 0) ∨
  (s.size ≤ 2000 ∧ ∃ (i : Nat) (f : St), i < s.size ∧ stp s i = some f ∧ stp s (i + 1) = none ∧ e = 2 ∧ p = i) ∨
  (s.size ≤ 2000 ∧ ∃ f, stp s s.size = some f ∧ ¬ acc f ∧ e = 2 ∧ p = s.size) ∨
  (s.size ≤ 2000 ∧ ∃ f, stp s s.size = some f ∧ acc f ∧ 0 ≤ hgh s s.size ∧ e = 3 ∧ p = hgh s s.size) ∨
  (s.size ≤ 2000 ∧ ∃ f, stp s s.size = some f ∧ acc f ∧ hgh s s.size < 0 ∧ e = 0 ∧ p = 0)

theorem stp_none {s : ByteArray} {i j : Nat} (h : stp s i = none) (hij : i ≤ j) : stp s j = none := by
  induction hij with
  | refl => exact h
  | step _ ih => simp only [Nat.succ_eq_add_one, stp, ih]

theorem RefRes.unique {s : ByteArray} {e p e' p' : Int} (h : RefRes s e p) (h' : RefRes s e' p') : e = e' ∧ p = p' := by
  rcases h with ⟨a, rfl, rfl⟩ | ⟨a, i, f, hi, h1, h2, rfl, rfl⟩ | ⟨a, f, h1, h2, rfl, rfl⟩ | ⟨a, f, h1, h2, h3, rfl, rfl⟩ | ⟨a, f, h1, h2, h3, rfl, rfl⟩
  all_goals rcases h' with ⟨a', rfl, rfl⟩ | ⟨a', i', f', hi', h1', h2', rfl, rfl⟩ | ⟨a', f', h1', h2', rfl, rfl⟩ | ⟨a', f', h1', h2', h3', rfl, rfl⟩ | ⟨a', f', h1', h2', h3', rfl, rfl⟩
  all_goals first
    | omega
    | (have := stp_none h2 (show i + 1 ≤ s.size by omega); rw [this] at h1'; cases h1')
    | (have := stp_none h2' (show i' + 1 ≤ s.size by omega); rw [this] at h1; cases h1)
    | (rw [h1] at h1'; cases h1'; exact absurd h2' h2)
    | (rw [h1] at h1'; cases h1'; exact absurd h2 h2')
    | skip
  refine ⟨rfl, ?_⟩
  by_cases hlt : i < i'
  · rw [stp_none h2 (show i + 1 ≤ i' by omega)] at h1'; cases h1'
  · by_cases hlt' : i' < i
    · rw [stp_none h2' (show i' + 1 ≤ i by omega)] at h1; cases h1
    · omega

end Go.Proofs.Ytlfpepehngkehaa
