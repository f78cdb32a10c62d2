/-
  Plain mathematics: no way is cheaper than the one that the document asks for.
-/
import Derived.Test.YtlfpepehngkehaaDoorKeepM
import Derived.Test.YtlfpepehngkehaaDoorKeepH
namespace Go.Proofs.YtlfpepehngkehaaDoor
set_option linter.unusedSimpArgs false
set_option linter.unusedVariables false

/-! a text of one run -/
theorem tlet_kind (raw : List Int) (i : Nat) : (97 ≤ tlet raw 97 i ∧ tlet raw 97 i ≤ 99) ∨ (0 < i ∧ tlet raw 97 i = 126) := by
  unfold tlet ltr
  by_cases h : i = 0
  · rw [if_neg (fun k => by rw [decide_eq_true h] at k; exact Bool.noConfusion k.2)]
    omega
  · split
    · exact .inr ⟨by omega, rfl⟩
    · omega
theorem tletA_kind (raw : List Int) (i : Nat) : (65 ≤ tlet raw 65 i ∧ tlet raw 65 i ≤ 67) ∨ (0 < i ∧ tlet raw 65 i = 126) := by
  unfold tlet ltr
  by_cases h : i = 0
  · rw [if_neg (fun k => by rw [decide_eq_true h] at k; exact Bool.noConfusion k.2)]
    omega
  · split
    · exact .inr ⟨by omega, rfl⟩
    · omega

/-- every byte is of one sort of letters, or a mark, and the first is no mark. -/
def OneRun (s : ByteArray) (k : Nat) : Prop := ∀ i, i < s.size → sortC (bt s i) = k ∨ (0 < i ∧ bt s i = 126)

theorem textOf_run (raw : List Int) : OneRun (textOf raw 97) 115 := fun i hi => by
  rw [textOf_size] at hi
  rw [textOf_bt raw 97 i (by omega) hi]
  rcases tlet_kind raw i with h | h
  · exact .inl (sortC_s.2 (by omega))
  · exact .inr h
theorem textOfA_run (raw : List Int) : OneRun (textOf raw 65) 99 := fun i hi => by
  rw [textOf_size] at hi
  rw [textOf_bt raw 65 i (by omega) hi]
  rcases tletA_kind raw i with h | h
  · exact .inl (sortC_c.2 (by omega))
  · exact .inr h

theorem oneRun_edge {s : ByteArray} {k i : Nat} (h : OneRun s k) (hi : i < s.size) (he : Edge s i) : sortC (bt s i) = k := by
  rcases h i hi with h | ⟨h1, h2⟩
  · exact h
  · rcases he with e | e | e
    · omega
    · omega
    · exact absurd h2 e

theorem oneRun_end {s : ByteArray} {k i : Nat} (h : OneRun s k) (hk : k ≠ 111) (h0 : 0 < i) (hi : i < s.size) : ¬ IsEnd s i := by
  rintro (e | ⟨e1, e2⟩)
  · omega
  · have h1 := oneRun_edge h hi e1
    have hf := frst_le s (i - 1)
    have h2 : sortAt s (i - 1) = k := oneRun_edge h (by omega) (frst_is s (i - 1))
    rcases e2 with e2 | e2
    · exact e2 (h2.trans h1.symm)
    · exact hk (h2.symm.trans e2)

theorem oneRun_cut {D : Dic} {s : ByteArray} {k : Nat} {l : List Nat} (h : OneRun s k) (hk : k ≠ 111) (hs : 0 < s.size) (hc : CutTo D s s.size l) : ∃ l1, l = 0 :: l1 ∧ RunAt s 0 s.size ∧ RunCut D s 0 s.size l1 := by
  have hr : RunAt s 0 s.size := ⟨hs, Nat.le_refl _, .inl rfl, .inl rfl, fun j a b => oneRun_end h hk a b⟩
  generalize hn : s.size = n at hc
  cases hc with
  | zero => omega
  | run h1 h2 h3 =>
    rw [← hn] at h2 h3
    obtain rfl := h2.unique hr
    have e := h1.unique .zero
    subst e
    exact ⟨_, rfl, by rw [← hn]; exact hr, by rw [← hn]; exact h3⟩

theorem cut_empty {D : Dic} {s : ByteArray} {l : List Nat} (hs : s.size = 0) (hc : CutTo D s s.size l) : l = [0] := by
  rw [hs] at hc
  exact hc.unique .zero

/-! prices -/
theorem stepC_iff {t : ByteArray} {q p : Nat} : StepC t q p 500 ↔ Edge t q ∧ AfterIs t q p :=
  ⟨fun ⟨a, b, c, d, e, _⟩ => ⟨a, b, c, d, e⟩, fun ⟨a, b, c, d, e⟩ => ⟨a, b, c, d, e, rfl⟩⟩

theorem tstands_word {T : Tab} {E : List Ent} {D : Dic} (hT : TabRep T E) (hD : Rep D E) {t : ByteArray} {q p : Nat} (h : TStands T t q p) : ∃ k, StepK D t k q p (tbest T t q p).toNat ∧ 0 ≤ tbest T t q p := by
  have hb : tbest T t q p = tcost T (t.extract q p) := by unfold tbest; rw [if_pos h]
  obtain ⟨h1, h2, h3, h4, h5⟩ := h
  have hm : (t.extract q p, (tcost T (t.extract q p)).toNat) ∈ D := by
    rw [tab_dic hT hD]
    omega
  obtain ⟨k, hk, e⟩ := List.mem_iff_getElem.1 hm
  have hsz : (t.extract q p).size = p - q := by simp; omega
  have hw : wd D k = t.extract q p := by rw [wd_eq hk, e]
  refine ⟨k, ⟨hk, ?_, ?_, ?_⟩, by rw [hb]; exact h5⟩
  · rw [hw]
    refine ⟨h3, by rw [hsz]; omega, ?_, ?_⟩
    · rw [hsz, show q + (p - q) = p by omega]
    · rw [hsz, show q + (p - q) = p by omega]; exact h4
  · rw [hw, hsz]; omega
  · rw [hb, ct_eq hk, e]

theorem word_tstands {T : Tab} {E : List Ent} {D : Dic} (hT : TabRep T E) (hD : Rep D E) (hS : Small D) {t : ByteArray} {k q p c : Nat} (h : StepK D t k q p c) : TStands T t q p ∧ tbest T t q p = (c : Int) := by
  obtain ⟨hk, ⟨h1, h2, h3, h4⟩, rfl, rfl⟩ := h
  have hsz := hS.at hk
  have hm : (wd D k, ct D k) ∈ D := by rw [wd_eq hk, ct_eq hk]; exact List.getElem_mem hk
  have hc : tcost T (t.extract q (q + (wd D k).size)) = (ct D k : Int) := by rw [h3]; exact (tab_dic hT hD _ _).1 hm
  have hst : TStands T t q (q + (wd D k).size) := ⟨h2, by omega, h1, h4, by rw [hc]; omega⟩
  exact ⟨hst, by unfold tbest; rw [if_pos hst]; exact hc⟩

theorem step_prc {T : Tab} {E : List Ent} {D : Dic} (hT : TabRep T E) (hD : Rep D E) (hS : Small D) {t : ByteArray} {q p c : Nat} (h : Step D t q p c) : 0 ≤ prc T t q p ∧ prc T t q p ≤ (c : Int) := by
  rcases h with h | ⟨k, h⟩
  · obtain rfl : c = 500 := h.2.2.2.2.2
    have ha := (stepC_iff.1 h).2
    by_cases hb : tbest T t q p < 0 ∨ 500 < tbest T t q p
    · rw [prc_after ha hb]; omega
    · rw [prc_low hb]; omega
  · obtain ⟨h1, h2⟩ := word_tstands hT hD hS h
    by_cases ha : AfterIs t q p
    · by_cases hb : tbest T t q p < 0 ∨ 500 < tbest T t q p
      · rw [prc_after ha hb]; omega
      · rw [prc_low hb]; omega
    · rw [prc_not ha]; omega

theorem prc_step {T : Tab} {E : List Ent} {D : Dic} (hT : TabRep T E) (hD : Rep D E) {t : ByteArray} {q p : Nat} (he : Edge t q) (h : 0 ≤ prc T t q p) : Step D t q p (prc T t q p).toNat := by
  by_cases ha : AfterIs t q p
  · by_cases hb : tbest T t q p < 0 ∨ 500 < tbest T t q p
    · rw [prc_after ha hb]; exact .inl (stepC_iff.2 ⟨he, ha⟩)
    · rw [prc_low hb]
      by_cases hs : TStands T t q p
      · obtain ⟨k, hk, _⟩ := tstands_word hT hD hs
        exact .inr ⟨k, hk⟩
      · have : tbest T t q p = -1 := by unfold tbest; rw [if_neg hs]
        omega
  · rw [prc_not ha] at h ⊢
    by_cases hs : TStands T t q p
    · obtain ⟨k, hk, _⟩ := tstands_word hT hD hs
      exact .inr ⟨k, hk⟩
    · have : tbest T t q p = -1 := by unfold tbest; rw [if_neg hs]
      omega

theorem stepT_prc {T : Tab} {E : List Ent} {D : Dic} (hT : TabRep T E) (hD : Rep D E) (hS : Small D) {t : ByteArray} {q p : Nat} (he : Edge t q) (h : StepT T t q p) : 0 ≤ prc T t q p := by
  rcases h with h | h
  · obtain ⟨k, hk, _⟩ := tstands_word hT hD h
    exact (step_prc hT hD hS (.inr ⟨k, hk⟩)).1
  · exact (step_prc hT hD hS (.inl (stepC_iff.2 ⟨he, h⟩))).1

/-! sums -/
theorem getD_append {l : List Nat} {p k : Nat} (h : k < l.length) : (l ++ [p]).getD k 0 = l.getD k 0 := by
  simp only [List.getD_eq_getElem?_getD]
  rw [List.getElem?_append_left h]

theorem totTo_append {T : Tab} {t : ByteArray} {l : List Nat} (p : Nat) : ∀ k, k < l.length → totTo T t (l ++ [p]) k = totTo T t l k
  | 0, _ => rfl
  | k + 1, h => by
    simp only [totTo]
    rw [totTo_append p k (by omega), getD_append (by omega), getD_append h]

/-- the sum of a list that ends at q. -/
def Sums (T : Tab) (t : ByteArray) (l : List Nat) (q : Nat) (m : Int) : Prop := l ≠ [] ∧ l.getD (l.length - 1) 0 = q ∧ totTo T t l (l.length - 1) = some m

theorem Sums.snoc {T : Tab} {t : ByteArray} {l : List Nat} {q p : Nat} {m : Int} (h : Sums T t l q m) (he : Edge t q) (hp : 0 ≤ prc T t q p) : Sums T t (l ++ [p]) p (m + prc T t q p) := by
  obtain ⟨h1, h2, h3⟩ := h
  have hpos : 0 < l.length := List.length_pos_iff.2 h1
  have e1 : (l ++ [p]).length - 1 = l.length := by simp
  refine ⟨by simp, ?_, ?_⟩
  · rw [e1]; simp [List.getD_eq_getElem?_getD]
  · rw [e1]
    have e2 : l.length = (l.length - 1) + 1 := by omega
    have e3 : (l ++ [p]).getD (l.length - 1 + 1) 0 = p := by rw [← e2]; simp [List.getD_eq_getElem?_getD]
    rw [e2]
    simp only [totTo]
    rw [totTo_append p (l.length - 1) (by omega), h3, getD_append (by omega), h2, e3]
    simp only
    rw [if_pos ⟨he, hp⟩]

theorem Sums.tot {T : Tab} {t : ByteArray} {l : List Nat} {q : Nat} {m : Int} (h : Sums T t l q m) : tot T t l = m := by unfold Go.Proofs.YtlfpepehngkehaaDoor.tot; rw [h.2.2]

theorem way_edge {D : Dic} {t : ByteArray} {q c : Nat} {l : List Nat} (hS : Small D) (h : Way D t 0 q l c) : Edge t q := by
  cases h with
  | nil => exact edge_zero t
  | snoc _ h2 => exact (h2.lt hS).2.2.2.2

theorem way_sums {T : Tab} {E : List Ent} {D : Dic} (hT : TabRep T E) (hD : Rep D E) (hS : Small D) {t : ByteArray} {q c : Nat} {l : List Nat} (h : Way D t 0 q l c) : ∃ m : Nat, Sums T t (0 :: l) q m ∧ m ≤ c ∧ Way D t 0 q l m := by
  induction h with
  | nil => exact ⟨0, ⟨by simp, rfl, rfl⟩, Nat.le_refl _, .nil⟩
  | @snoc q p c c' l h1 h2 ih =>
    obtain ⟨m, i1, i2, i3⟩ := ih
    have he : Edge t q := (h2.lt hS).2.2.2.1
    obtain ⟨p1, p2⟩ := step_prc hT hD hS h2
    have hs := i1.snoc he p1
    have e : ((m : Nat) : Int) + prc T t q p = ((m + (prc T t q p).toNat : Nat) : Int) := by omega
    rw [e] at hs
    exact ⟨m + (prc T t q p).toNat, hs, by omega, .snoc i3 (prc_step hT hD he p1)⟩

theorem tw_sums {T : Tab} {E : List Ent} {D : Dic} (hT : TabRep T E) (hD : Rep D E) (hS : Small D) {t : ByteArray} {q : Nat} {l : List Nat} (h : TW T t q l) : ∃ (m : Nat) (l1 : List Nat), l = 0 :: l1 ∧ Sums T t l q m ∧ Way D t 0 q l1 m := by
  induction h with
  | zero => exact ⟨0, [], rfl, ⟨by simp, rfl, rfl⟩, .nil⟩
  | @snoc q p l h1 h2 h3 ih =>
    obtain ⟨m, l1, rfl, i2, i3⟩ := ih
    have he : Edge t q := h1.facts.2.2.1
    have p1 := stepT_prc hT hD hS he h3
    have hs := i2.snoc he p1
    have e : ((m : Nat) : Int) + prc T t q p = ((m + (prc T t q p).toNat : Nat) : Int) := by omega
    rw [e] at hs
    exact ⟨m + (prc T t q p).toNat, l1 ++ [p], rfl, hs, .snoc i3 (prc_step hT hD he p1)⟩

/-- P9: whatever other way is held against it. -/
theorem cheapest_holds {T : Tab} {E : List Ent} {D : Dic} (hT : TabRep T E) (hD : Rep D E) (hS : Small D) {s : ByteArray} (hr : OneRun s 115) {l W : List Nat} (hc : CutTo D s s.size l) (hw : TW T s s.size W) : 0 ≤ tot T s l ∧ (tot T s l < tot T s W ∨ (tot T s l = tot T s W ∧ klt W l = false)) := by
  obtain ⟨m', W1, rfl, w2, w3⟩ := tw_sums hT hD hS hw
  have hbest : ∃ l1, l = 0 :: l1 ∧ IsBest D s 0 s.size l1 := by
    by_cases hs : s.size = 0
    · have e := cut_empty hs hc
      refine ⟨[], e, 0, by rw [hs]; exact .nil, fun l' c' h' => ?_⟩
      have hf := h'.facts hS
      have e1 : l' = [] := List.eq_nil_of_length_eq_zero (by omega)
      subst e1
      rcases Nat.eq_zero_or_pos c' with e2 | e2
      · subst e2; exact bleq_refl _
      · exact .inl e2
    · obtain ⟨l1, e, r1, r2⟩ := oneRun_cut hr (by omega) (by omega) hc
      refine ⟨l1, e, ?_⟩
      have h0 : sortC (bt s 0) = 115 := oneRun_edge hr (by omega) (edge_zero s)
      rcases r2 with ⟨_, h⟩ | ⟨h, _⟩ | ⟨h, _⟩
      · exact h
      · omega
      · exact absurd h0 h
  obtain ⟨l1, rfl, c, b1, b2⟩ := hbest
  obtain ⟨m, s1, s2, s3⟩ := way_sums hT hD hS b1
  have e1 := b2 _ _ s3
  have hmc : m = c := by rcases e1 with e1 | ⟨e1, _⟩ <;> simp only at e1 <;> omega
  subst hmc
  rw [s1.tot, w2.tot]
  refine ⟨by omega, ?_⟩
  rcases b2 _ _ w3 with h | ⟨h1, h2⟩
  · exact .inl (by simp only at h; omega)
  · refine .inr ⟨by simp only at h1; omega, ?_⟩
    cases e : klt (0 :: W1) (0 :: l1) with
    | false => rfl
    | true =>
      have : klt W1 l1 = true := by simpa [klt] using e
      simp only at h2
      rw [klt_llt this] at h2
      cases h2

end Go.Proofs.YtlfpepehngkehaaDoor
