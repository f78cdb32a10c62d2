/-
  Plain mathematics: lists one over the other; the hits of a table.
-/
import Derived.Test.YtlfpepehngkehaaDoorKeepH
import Derived.Test.YtlfpepehngkehaaDoorKeepR
import Derived.Test.YtlfpepehngkehaaDoorMaths
import Derived.Test.YtlfpepehngkehaaDoorPrefix
namespace Go.Proofs.YtlfpepehngkehaaDoor
set_option linter.unusedSimpArgs false
set_option linter.unusedVariables false

theorem joinR_append : ∀ (L M : List ByteArray), L ≠ [] → M ≠ [] → joinR (L ++ M) = joinR L ++ comm ++ joinR M
  | [], _, h, _ => absurd rfl h
  | [x], y :: M, _, _ => by simp only [List.cons_append, List.nil_append, joinR]; rw [ba_assoc]
  | [x], [], _, h => absurd rfl h
  | x :: y :: L, M, _, hM => by
    have := joinR_append (y :: L) M (by simp) hM
    simp only [List.cons_append] at this
    simp only [List.cons_append, joinR]
    rw [this]
    simp only [ba_assoc]

/-- all entries as one list. -/
def sAll (raw : List Int) : ByteArray := joinR ((prs raw (nE raw)).map txtOf)

theorem sB_none {raw : List Int} (h : (sB raw).toList = []) : sA raw = sAll raw := by
  have hz : (sB raw).size = 0 := by rw [← toList_length, h]; rfl
  rw [sB_eq] at hz
  have h1 := joinR_len ((prs raw (nE raw)).drop 20)
  have hd : (prs raw (nE raw)).drop 20 = [] := List.eq_nil_of_length_eq_zero (by omega)
  have ht : (prs raw (nE raw)).take 20 = prs raw (nE raw) := by
    have := List.take_append_drop 20 (prs raw (nE raw))
    rw [hd, List.append_nil] at this
    exact this
  rw [sA_eq, ht]
  rfl

theorem sB_some {raw : List Int} (h : (sB raw).toList ≠ []) : sA raw ++ comm ++ sB raw = sAll raw := by
  have hd : (prs raw (nE raw)).drop 20 ≠ [] := fun e => h (by rw [sB_eq, e]; simp [joinR, ByteArray.toList_eq])
  have hl : 20 < (prs raw (nE raw)).length := by
    rcases Nat.lt_or_ge 20 (prs raw (nE raw)).length with h1 | h1
    · exact h1
    · exact absurd (List.drop_of_length_le h1) hd
  have ht : (prs raw (nE raw)).take 20 ≠ [] := fun e => by have := congrArg List.length e; rw [List.length_take, List.length_nil] at this; omega
  rw [sA_eq, sB_eq, ← joinR_append _ _ (by simpa using ht) (by simpa using hd), ← List.map_append, List.take_append_drop]
  rfl

theorem sAll_size (raw : List Int) : (sAll raw).size ≤ 801 := by
  have h1 := sA_size raw
  have h2 := sB_size raw
  by_cases h : (sB raw).toList = []
  · rw [← sB_none h]; omega
  · rw [← sB_some h, ByteArray.size_append, ByteArray.size_append]
    have : comm.size = 1 := rfl
    omega

def eAll (raw : List Int) : List Ent := entsFrom (prs raw (nE raw)) 0

theorem eAll_ok (raw : List Int) : OkUpTo [sAll raw] 1 (eAll raw) :=
  ⟨[], eAll raw, rfl, ⟨by simp, okList_join _ (by have := sAll_size raw; unfold sAll at this; omega)⟩, rfl⟩

theorem eAll_eff (raw : List Int) (w : ByteArray) : eff (eAll raw) w = eff (eAB raw) w := by
  apply eff_eq
  unfold eAll eAB
  rw [List.map_append, ← entsFrom_append, List.take_append_drop]

theorem rep_all {raw : List Int} {D : Dic} : Rep D (eAll raw) ↔ Rep D (eAB raw) := by
  unfold Rep
  simp only [eAll_eff]

theorem build_all (raw : List Int) (err : Int) : ¬ BuildNo [sAll raw] err := by
  refine build_ok (E := eAll raw) (by simp) (eAll_ok raw) (fun D hR => ?_) err
  have := dic_words (eAB_tab raw) (rep_all.1 hR)
  have := tabTo_length raw (nE raw)
  have := (nE_le raw).1
  omega

theorem yes_all {raw : List Int} {D : Dic} (h : BuildYes [sAll raw] D) : Rep D (eAB raw) := by
  obtain ⟨_, E, h1, h2, _⟩ := h
  rw [← OkUpTo.one (eAll_ok raw) h1] at h2
  exact rep_all.1 h2

theorem tabTo_words (raw : List Int) : ∀ n, ∀ p ∈ tabTo raw n, p.1.size ≤ 4
  | 0, p, h => by simp [tabTo] at h
  | n + 1, p, h => by
    simp only [tabTo] at h
    rcases tput_mem h with h | rfl
    · exact tabTo_words raw n p h
    · exact wordOf_size _

/-! the hits of a word, one length behind the other -/
/-- k hits are shorter than n. -/
def HitsAt (H : List (Nat × Nat)) (n k : Nat) : Prop := k ≤ H.length ∧ (∀ j (h : j < H.length), j < k → H[j].1 < n) ∧ ∀ j (h : j < H.length), k ≤ j → n ≤ H[j].1

theorem hits_begin {D : Dic} {s : ByteArray} {H : List (Nat × Nat)} (h : Hits D s H) (hw : ∀ p ∈ D, 1 ≤ p.1.size) : HitsAt H 1 0 := by
  refine ⟨Nat.zero_le _, fun j _ hj => by omega, fun j hj _ => ?_⟩
  have hm : (H[j].1, H[j].2) ∈ H := List.getElem_mem hj
  obtain ⟨h1, h2⟩ := (h.2 _ _).1 hm
  have := hw _ h2
  simp at this
  omega

theorem hits_in {D : Dic} {s : ByteArray} {H : List (Nat × Nat)} (h : Hits D s H) {n k c : Nat} (hn : n ≤ s.size) (ha : HitsAt H n k) (hm : (s.extract 0 n, c) ∈ D) : ∃ hk : k < H.length, H[k] = (n, c) ∧ HitsAt H (n + 1) (k + 1) := by
  obtain ⟨h1, h2, h3⟩ := ha
  obtain ⟨j, hj, e⟩ := List.mem_iff_getElem.1 ((h.2 n c).2 ⟨hn, hm⟩)
  have hkj : k ≤ j := by
    rcases Nat.lt_or_ge j k with x | x
    · have := h2 j hj x; rw [e] at this; simp at this
    · exact x
  have hk : k < H.length := by omega
  have hrise := fun a b (ha : a < H.length) (hb : b < H.length) (hab : a < b) => List.pairwise_iff_getElem.1 h.1 a b ha hb hab
  have ek : k = j := by
    rcases Nat.lt_or_ge k j with x | x
    · have a1 := hrise k j hk hj x
      have a2 := h3 k hk (Nat.le_refl _)
      rw [e] at a1
      simp only at a1
      omega
    · omega
  subst ek
  refine ⟨hk, e, hk, fun i hi hlt => ?_, fun i hi hlt => ?_⟩
  · rcases Nat.lt_or_ge i k with x | x
    · have := h2 i hi x; omega
    · obtain rfl : i = k := by omega
      rw [e]; simp
  · have := hrise k i hk hi (by omega)
    rw [e] at this
    simp only at this
    omega

theorem hits_out {D : Dic} {s : ByteArray} {H : List (Nat × Nat)} (h : Hits D s H) {n k : Nat} (ha : HitsAt H n k) (hm : ∀ c, (s.extract 0 n, c) ∉ D) : HitsAt H (n + 1) k := by
  obtain ⟨h1, h2, h3⟩ := ha
  refine ⟨h1, fun j hj hlt => by have := h2 j hj hlt; omega, fun j hj hge => ?_⟩
  have := h3 j hj hge
  have hne : H[j].1 ≠ n := fun e => by
    have hm' : (H[j].1, H[j].2) ∈ H := List.getElem_mem hj
    obtain ⟨_, h5⟩ := (h.2 _ _).1 hm'
    rw [e] at h5
    exact hm _ h5
  omega

theorem hits_end {D : Dic} {s : ByteArray} {H : List (Nat × Nat)} (h : Hits D s H) {k : Nat} (ha : HitsAt H (s.size + 1) k) : k = H.length := by
  obtain ⟨h1, _, h3⟩ := ha
  rcases Nat.lt_or_ge k H.length with x | x
  · have := h3 k x (Nat.le_refl _)
    have hm' : (H[k].1, H[k].2) ∈ H := List.getElem_mem x
    have := ((h.2 _ _).1 hm').1
    omega
  · omega

end Go.Proofs.YtlfpepehngkehaaDoor
