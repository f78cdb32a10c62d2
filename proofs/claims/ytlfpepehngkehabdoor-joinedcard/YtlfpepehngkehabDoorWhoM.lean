/-
  Plain mathematics: boundaries one behind the other; what Whole looks at.
-/
import Derived.Test.YtlfpepehngkehabDoorMaths
namespace Go.Proofs.YtlfpepehngkehabDoor
set_option linter.unusedSimpArgs false
set_option linter.unusedVariables false

/-- k boundaries lie below i. -/
def BelowK (l : List Nat) (i k : Nat) : Prop := k ≤ l.length ∧ (∀ j (h : j < l.length), j < k → l[j] < i) ∧ ∀ j (h : j < l.length), k ≤ j → i ≤ l[j]

theorem belowK_zero (l : List Nat) : BelowK l 0 0 := ⟨Nat.zero_le _, fun j _ h => by omega, fun j _ _ => Nat.zero_le _⟩

theorem belowK_lt {l : List Nat} {n i k : Nat} (hb : Bounds l n) (h : BelowK l i k) (hi : i ≤ n) : k < l.length := by
  obtain ⟨h1, h2, h3⟩ := h
  rcases Nat.lt_or_ge k l.length with x | x
  · exact x
  · obtain ⟨j, hj, e⟩ := List.mem_iff_getElem.1 hb.last
    have := h2 j hj (by omega)
    omega

theorem belowK_here {l : List Nat} {n i k : Nat} (hb : Bounds l n) (h : BelowK l i k) (hk : k < l.length) : l[k] = i ↔ i ∈ l := by
  obtain ⟨h1, h2, h3⟩ := h
  constructor
  · intro e; rw [← e]; exact List.getElem_mem hk
  · intro hm
    obtain ⟨j, hj, e⟩ := List.mem_iff_getElem.1 hm
    have hkj : k ≤ j := by
      rcases Nat.lt_or_ge j k with x | x
      · have := h2 j hj x; omega
      · exact x
    have := h3 k hk (Nat.le_refl _)
    rcases Nat.lt_or_ge k j with x | x
    · have := List.pairwise_iff_getElem.1 hb.srt k j hk hj x
      omega
    · obtain rfl : k = j := by omega
      exact e

theorem belowK_in {l : List Nat} {n i k : Nat} (hb : Bounds l n) (h : BelowK l i k) (hk : k < l.length) (e : l[k] = i) : BelowK l (i + 1) (k + 1) := by
  obtain ⟨h1, h2, h3⟩ := h
  refine ⟨hk, fun j hj hlt => ?_, fun j hj hge => ?_⟩
  · rcases Nat.lt_or_ge j k with x | x
    · have := h2 j hj x; omega
    · obtain rfl : j = k := by omega
      omega
  · have := List.pairwise_iff_getElem.1 hb.srt k j hk hj (by omega)
    omega

theorem belowK_out {l : List Nat} {i k : Nat} (h : BelowK l i k) (hm : i ∉ l) : BelowK l (i + 1) k := by
  obtain ⟨h1, h2, h3⟩ := h
  refine ⟨h1, fun j hj hlt => by have := h2 j hj hlt; omega, fun j hj hge => ?_⟩
  have := h3 j hj hge
  have hne : l[j] ≠ i := fun e => hm (by rw [← e]; exact List.getElem_mem hj)
  omega

/-- the sort of the cluster ahead of i. -/
def lastK (t : ByteArray) (i : Nat) : Nat := if i = 0 then 0 else ksort (bt t (frst t (i - 1)))

theorem frst_self {t : ByteArray} {i : Nat} (h : i = 0 ∨ bt t i ≠ 126) : frst t i = i := by
  rcases h with rfl | h
  · cases t; rfl
  · cases i with
    | zero => rfl
    | succ i => simp only [frst]; rw [if_pos (.inr (.inr h))]

theorem frst_mark {t : ByteArray} {i : Nat} (h0 : 0 < i) (hi : i < t.size) (h : bt t i = 126) : frst t i = frst t (i - 1) := by
  obtain ⟨j, rfl⟩ : ∃ j, i = j + 1 := ⟨i - 1, by omega⟩
  have : ¬ Edge t (j + 1) := by
    rintro (h1 | h1 | h1)
    · omega
    · omega
    · exact h1 h
  simp only [frst, Nat.add_sub_cancel]
  rw [if_neg this]

theorem lastK_own {t : ByteArray} {i : Nat} (h : i = 0 ∨ bt t i ≠ 126) : lastK t (i + 1) = ksort (bt t i) := by
  unfold lastK
  rw [if_neg (by omega), Nat.add_sub_cancel, frst_self h]

theorem lastK_mark {t : ByteArray} {i : Nat} (h0 : 0 < i) (hi : i < t.size) (h : bt t i = 126) : lastK t (i + 1) = lastK t i := by
  unfold lastK
  rw [if_neg (by omega), if_neg (by omega), Nat.add_sub_cancel, frst_mark h0 hi h]

theorem mark_out {D : Dic} {t : ByteArray} {l : List Nat} (hD : GoodDic D) (h : CutTo D t t.size l) {i : Nat} (h0 : 0 < i) (hi : i < t.size) (he : bt t i = 126) : i ∉ l := by
  intro hm
  rcases cut_edges hD h i hm with h1 | h1 | h1
  · omega
  · omega
  · exact h1 he

end Go.Proofs.YtlfpepehngkehabDoor
