/-
  Plain mathematics: what lists gives is taken by Build, and its table holds it.
-/
import Derived.Test.YtlfpepehngkehabDoorKeepG
namespace Go.Proofs.YtlfpepehngkehabDoor
set_option linter.unusedSimpArgs false
set_option linter.unusedVariables false

def prs (raw : List Int) : Nat → List (Int × Int)
  | 0 => []
  | j + 1 => prs raw j ++ [(rw1 raw j, rw2 raw j)]

theorem prs_length (raw : List Int) : ∀ n, (prs raw n).length = n
  | 0 => rfl
  | n + 1 => by simp [prs, prs_length raw n]

theorem txA_prs (raw : List Int) : ∀ n, txA raw n = ((prs raw n).take 20).map txtOf
  | 0 => rfl
  | n + 1 => by
    have ih := txA_prs raw n
    have hl := prs_length raw n
    simp only [txA, prs]
    split
    · rename_i h
      rw [ih, List.take_append, List.take_of_length_le (l := prs raw n) (by omega), List.map_append, hl]
      have e : List.take (20 - n) [(rw1 raw n, rw2 raw n)] = [(rw1 raw n, rw2 raw n)] := List.take_of_length_le (by simp; omega)
      rw [e]
      rfl
    · rename_i h
      rw [ih, List.take_append, hl, show 20 - n = 0 by omega]
      simp

theorem txB_prs (raw : List Int) : ∀ n, txB raw n = ((prs raw n).drop 20).map txtOf
  | 0 => rfl
  | n + 1 => by
    have ih := txB_prs raw n
    have hl := prs_length raw n
    simp only [txB, prs]
    split
    · rename_i h
      rw [ih, List.drop_append, List.drop_of_length_le (l := prs raw n) (by omega), hl]
      have e : List.drop (20 - n) [(rw1 raw n, rw2 raw n)] = [] := List.drop_of_length_le (by simp; omega)
      rw [e]
      rfl
    · rename_i h
      rw [ih, List.drop_append, hl, show 20 - n = 0 by omega]
      simp [txtOf, txt]

theorem tabP_append : ∀ (P Q : List (Int × Int)) (T : Tab), tabP (P ++ Q) T = tabP Q (tabP P T)
  | [], _, _ => rfl
  | p :: P, Q, T => by simp only [List.cons_append, tabP]; exact tabP_append P Q _

theorem tabTo_prs (raw : List Int) : ∀ n, tabTo raw n = tabP (prs raw n) []
  | 0 => rfl
  | n + 1 => by simp only [tabTo, prs]; rw [tabP_append, ← tabTo_prs raw n]; rfl

def sA (raw : List Int) : ByteArray := joinTo (txA raw (nE raw)) (txA raw (nE raw)).length
def sB (raw : List Int) : ByteArray := joinTo (txB raw (nE raw)) (txB raw (nE raw)).length
def eAB (raw : List Int) : List Ent := entsFrom ((prs raw (nE raw)).take 20) 0 ++ entsFrom ((prs raw (nE raw)).drop 20) 0

theorem sA_eq (raw : List Int) : sA raw = joinR (((prs raw (nE raw)).take 20).map txtOf) := by
  unfold sA
  rw [joinTo_eq _ _ (Nat.le_refl _), List.take_length, txA_prs]
theorem sB_eq (raw : List Int) : sB raw = joinR (((prs raw (nE raw)).drop 20).map txtOf) := by
  unfold sB
  rw [joinTo_eq _ _ (Nat.le_refl _), List.take_length, txB_prs]

theorem sA_size (raw : List Int) : (sA raw).size ≤ 400 := by
  have h1 := joinTo_size (txA_size raw (nE raw)) _ (Nat.le_refl _)
  have h2 := txA_length raw (nE raw)
  have h3 : nE raw ≤ 40 := by unfold nE; omega
  unfold sA
  omega
theorem sB_size (raw : List Int) : (sB raw).size ≤ 400 := by
  have h1 := joinTo_size (txB_size raw (nE raw)) _ (Nat.le_refl _)
  have h2 := txB_length raw (nE raw)
  have h3 : nE raw ≤ 40 := by unfold nE; omega
  unfold sB
  omega

theorem eAB_ok (raw : List Int) : OkUpTo [sA raw, sB raw] 2 (eAB raw) := by
  have hA : OkList (sA raw) (entsFrom ((prs raw (nE raw)).take 20) 0) := by
    have := sA_size raw
    rw [sA_eq] at this ⊢
    exact okList_join _ (by omega)
  have hB : OkList (sB raw) (entsFrom ((prs raw (nE raw)).drop 20) 0) := by
    have := sB_size raw
    rw [sB_eq] at this ⊢
    exact okList_join _ (by omega)
  exact ⟨_, _, ⟨[], _, rfl, ⟨by simp, hA⟩, rfl⟩, ⟨by simp, hB⟩, rfl⟩

theorem eAB_length (raw : List Int) : (eAB raw).length ≤ 40 := by
  have h3 : nE raw ≤ 40 := by unfold nE; omega
  have := prs_length raw (nE raw)
  unfold eAB
  rw [List.length_append, entsFrom_length, entsFrom_length, List.length_take, List.length_drop]
  omega

theorem TabRep.congr {T : Tab} {E E' : List Ent} (h : TabRep T E) (he : ∀ w, eff E w = eff E' w) : TabRep T E' := ⟨h.1, fun w => by rw [← he w]; exact h.2 w⟩

theorem eAB_tab (raw : List Int) : TabRep (tabTo raw (nE raw)) (eAB raw) := by
  have h := tabRep_P (prs raw (nE raw)) 0 TabRep.nil
  rw [tabTo_prs]
  refine h.congr fun w => eff_eq ?_ w
  rw [List.nil_append]
  have e := entsFrom_append ((prs raw (nE raw)).take 20) ((prs raw (nE raw)).drop 20) 0
  rw [List.take_append_drop] at e
  rw [e]
  unfold eAB
  rw [List.map_append]

/-- what is in the table is in the dictionary. -/
theorem tab_dic {T : Tab} {E : List Ent} {D : Dic} (hT : TabRep T E) (hD : Rep D E) (w : ByteArray) (c : Nat) : (w, c) ∈ D ↔ tcost T w = (c : Int) := by
  rw [hD.2, hT.2]
  constructor
  · intro h; rw [h]
  · intro h
    cases e : eff E w with
    | none => rw [e] at h; simp only at h; omega
    | some c' => rw [e] at h; simp only at h; congr 1; omega

theorem tab_none {T : Tab} {E : List Ent} {D : Dic} (hT : TabRep T E) (hD : Rep D E) (w : ByteArray) : (∀ c, (w, c) ∉ D) ↔ tcost T w < 0 := by
  constructor
  · intro h
    rw [hT.2]
    cases e : eff E w with
    | none => simp
    | some c => exact absurd ((hD.2 w c).2 e) (h c)
  · intro h c hm
    rw [tab_dic hT hD] at hm
    omega

theorem nodup_le : ∀ {l m : List ByteArray}, l.Nodup → (∀ w ∈ l, w ∈ m) → l.length ≤ m.length
  | [], _, _, _ => Nat.zero_le _
  | a :: l, m, hn, hs => by
    have ha : a ∈ m := hs a List.mem_cons_self
    have hnl := List.nodup_cons.1 hn
    obtain ⟨s, u, rfl⟩ := List.append_of_mem ha
    have h1 := nodup_le (l := l) (m := s ++ u) hnl.2 fun w hw => by
      have h2 := hs w (List.mem_cons_of_mem _ hw)
      rcases List.mem_append.1 h2 with h | h
      · exact List.mem_append_left _ h
      · rcases List.mem_cons.1 h with e | h
        · rw [e] at hw; exact absurd hw hnl.1
        · exact List.mem_append_right _ h
    simp only [List.length_append, List.length_cons] at h1 ⊢
    omega

/-- the dictionary has no more words than there are entries. -/
theorem dic_words {T : Tab} {E : List Ent} {D : Dic} (hT : TabRep T E) (hD : Rep D E) : D.length ≤ T.length := by
  have hsub : ∀ w ∈ D.map (·.1), w ∈ T.map (·.1) := fun w hw => by
    obtain ⟨p, hp, rfl⟩ := List.mem_map.1 hw
    have h1 := (tab_dic hT hD p.1 p.2).1 hp
    by_cases hm : p.1 ∈ T.map (·.1)
    · exact hm
    · have : tcost T p.1 = -1 := tcost_none fun j hj e => hm (List.mem_map.2 ⟨T[j], List.getElem_mem hj, e⟩)
      omega
  have hnd : (D.map (·.1)).Nodup := by
    have hs := hD.1
    unfold Srt at hs
    rw [List.Nodup, List.pairwise_map]
    exact hs.imp fun h => wl_ne h
  have := nodup_le hnd hsub
  simpa using this

end Go.Proofs.YtlfpepehngkehabDoor
