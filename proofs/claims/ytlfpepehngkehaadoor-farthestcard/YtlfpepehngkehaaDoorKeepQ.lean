/-
  Plain mathematics: the pieces of a run of capitals are those that the table's words ask for.
-/
import Derived.Test.YtlfpepehngkehaaDoorKeepP
namespace Go.Proofs.YtlfpepehngkehaaDoor
set_option linter.unusedSimpArgs false
set_option linter.unusedVariables false

theorem any_iff {T : Tab} {E : List Ent} {D : Dic} (hT : TabRep T E) (hD : Rep D E) (hS : Small D) (h4 : ∀ p ∈ D, p.1.size ≤ 4) {t : ByteArray} {i : Nat} : AnyAt D t i ↔ AnyT T t i := by
  constructor
  · rintro ⟨k, hk, hs⟩
    have hz := hS.at hk
    have h5 : (wd D k).size ≤ 4 := by rw [wd_eq hk]; exact h4 _ (List.getElem_mem hk)
    obtain ⟨h1, _⟩ := word_tstands hT hD hS ⟨hk, hs, rfl, rfl⟩
    exact ⟨(wd D k).size - 1, by omega, by rw [show i + ((wd D k).size - 1) + 1 = i + (wd D k).size by omega]; exact h1⟩
  · rintro ⟨m, hm, hs⟩
    obtain ⟨k, hk, _⟩ := tstands_word hT hD hs
    exact ⟨k, hk.1, hk.2.1⟩

/-- the farthest of p and of what the words that stand there lead to. -/
def IsFar (f : Nat → Nat) (D : Dic) (t : ByteArray) (p m : Nat) : Prop :=
  p ≤ m ∧ (∀ k, k < D.length → Stands t p (wd D k) → f (p + (wd D k).size) ≤ m) ∧ (m = p ∨ ∃ k, k < D.length ∧ Stands t p (wd D k) ∧ m = f (p + (wd D k).size))

theorem IsFar.unique {f g : Nat → Nat} {D : Dic} {t : ByteArray} {p m m' : Nat} (h : IsFar f D t p m) (h' : IsFar g D t p m') (he : ∀ k, k < D.length → Stands t p (wd D k) → f (p + (wd D k).size) = g (p + (wd D k).size)) : m = m' := by
  obtain ⟨a1, a2, a3⟩ := h
  obtain ⟨b1, b2, b3⟩ := h'
  have l1 : m ≤ m' := by
    rcases a3 with e | ⟨k, hk, hs, e⟩
    · omega
    · rw [e, he k hk hs]; exact b2 k hk hs
  have l2 : m' ≤ m := by
    rcases b3 with e | ⟨k, hk, hs, e⟩
    · omega
    · rw [e, ← he k hk hs]; exact a2 k hk hs
  omega

theorem rowTo_far (f : Nat → Nat) (D : Dic) (t : ByteArray) (p : Nat) : IsFar f D t p (rowTo f D t p D.length) := by
  have key : ∀ n, n ≤ D.length → p ≤ rowTo f D t p n ∧ (∀ k, k < n → Stands t p (wd D k) → f (p + (wd D k).size) ≤ rowTo f D t p n) ∧ (rowTo f D t p n = p ∨ ∃ k, k < D.length ∧ Stands t p (wd D k) ∧ rowTo f D t p n = f (p + (wd D k).size)) := by
    intro n
    induction n with
    | zero => intro _; exact ⟨Nat.le_refl _, fun k hk => by omega, .inl rfl⟩
    | succ n ih =>
      intro hn
      obtain ⟨a1, a2, a3⟩ := ih (by omega)
      simp only [rowTo]
      split
      · rename_i hs
        refine ⟨by omega, fun k hk hk2 => ?_, ?_⟩
        · by_cases e : k = n
          · subst e; exact Nat.le_max_right _ _
          · exact Nat.le_trans (a2 k (by omega) hk2) (Nat.le_max_left _ _)
        · rcases Nat.le_total (rowTo f D t p n) (f (p + (wd D n).size)) with h | h
          · exact .inr ⟨n, by omega, hs, Nat.max_eq_right h⟩
          · rw [Nat.max_eq_left h]; exact a3
      · rename_i hs
        refine ⟨a1, fun k hk hk2 => ?_, a3⟩
        by_cases e : k = n
        · subst e; exact absurd hk2 hs
        · exact a2 k (by omega) hk2
  exact key D.length (Nat.le_refl _)

theorem farTo_far {T : Tab} {E : List Ent} {D : Dic} (hT : TabRep T E) (hD : Rep D E) (hS : Small D) (h4 : ∀ p ∈ D, p.1.size ≤ 4) (f : Nat → Nat) (t : ByteArray) (p : Nat) : IsFar f D t p (farTo f T t p 5) := by
  have key : ∀ n, p ≤ farTo f T t p n ∧ (∀ m, m < n → TStands T t p (p + m + 1) → f (p + m + 1) ≤ farTo f T t p n) ∧ (farTo f T t p n = p ∨ ∃ m, TStands T t p (p + m + 1) ∧ farTo f T t p n = f (p + m + 1)) := by
    intro n
    induction n with
    | zero => exact ⟨Nat.le_refl _, fun k hk => by omega, .inl rfl⟩
    | succ n ih =>
      obtain ⟨a1, a2, a3⟩ := ih
      simp only [farTo]
      split
      · rename_i hs
        refine ⟨by omega, fun k hk hk2 => ?_, ?_⟩
        · by_cases e : k = n
          · subst e; exact Nat.le_max_right _ _
          · exact Nat.le_trans (a2 k (by omega) hk2) (Nat.le_max_left _ _)
        · rcases Nat.le_total (farTo f T t p n) (f (p + n + 1)) with h | h
          · exact .inr ⟨n, hs, Nat.max_eq_right h⟩
          · rw [Nat.max_eq_left h]; exact a3
      · rename_i hs
        refine ⟨a1, fun k hk hk2 => ?_, a3⟩
        by_cases e : k = n
        · subst e; exact absurd hk2 hs
        · exact a2 k (by omega) hk2
  obtain ⟨b1, b2, b3⟩ := key 5
  refine ⟨b1, fun k hk hs => ?_, ?_⟩
  · have hz := hS.at hk
    have h5 : (wd D k).size ≤ 4 := by rw [wd_eq hk]; exact h4 _ (List.getElem_mem hk)
    obtain ⟨h1, _⟩ := word_tstands hT hD hS ⟨hk, hs, rfl, rfl⟩
    have e : p + ((wd D k).size - 1) + 1 = p + (wd D k).size := by omega
    have := b2 ((wd D k).size - 1) (by omega) (by rw [e]; exact h1)
    rwa [e] at this
  · rcases b3 with e | ⟨m, hs, e⟩
    · exact .inl e
    · obtain ⟨k, ⟨hk, hk2, hk3, _⟩, _⟩ := tstands_word hT hD hs
      exact .inr ⟨k, hk, hk2, by rw [e, hk3]⟩

theorem far_eq {T : Tab} {E : List Ent} {D : Dic} (hT : TabRep T E) (hD : Rep D E) (hS : Small D) (h4 : ∀ p ∈ D, p.1.size ≤ 4) (t : ByteArray) : ∀ (n p : Nat), p ≤ t.size → farT T t n p = rch D t t.size n p
  | 0, _, _ => rfl
  | n + 1, p, hp => by
    simp only [farT, rch]
    split
    · exact (farTo_far hT hD hS h4 _ t p).unique (rowTo_far _ D t p) fun k hk hs => far_eq hT hD hS h4 t n _ hs.2.1
    · exact farTo_end (m := 0) (by omega) 5 (Nat.zero_le _)

theorem rch_ge (D : Dic) (t : ByteArray) (hi : Nat) : ∀ (n p : Nat), p ≤ rch D t hi n p
  | 0, _ => Nat.le_refl _
  | n + 1, p => by
    simp only [rch]
    split
    · exact (rowTo_far _ D t p).1
    · exact Nat.le_refl _

theorem ahead_right {T : Tab} {E : List Ent} {D : Dic} (hT : TabRep T E) (hD : Rep D E) (hS : Small D) (h4 : ∀ p ∈ D, p.1.size ≤ 4) {t : ByteArray} {i e : Nat} (hi : i < t.size) (h : AheadOk D t i t.size e) : RightOk T t i e := by
  rcases h with ⟨⟨k, hk, hs, he⟩, hmax⟩ | ⟨h1, h2, h3, h5, h6⟩
  · right
    have hz := hS.at hk
    have het : e ≤ t.size := by rw [he]; exact hs.2.1
    have hst : TStands T t i e := by rw [he]; exact (word_tstands hT hD hS ⟨hk, hs, rfl, rfl⟩).1
    have hfe := far_eq hT hD hS h4 t 2 e het
    have hfi := far_eq hT hD hS h4 t 3 i (by omega)
    have hr3 : rch D t t.size 3 i = rch D t t.size 2 e := by
      have e1 : rch D t t.size 3 i = rowTo (rch D t t.size 2) D t i D.length := by
        show (if i < t.size then rowTo (rch D t t.size 2) D t i D.length else i) = _
        rw [if_pos hi]
      rw [e1]
      obtain ⟨a1, a2, a3⟩ := rowTo_far (rch D t t.size 2) D t i
      have hge := rch_ge D t t.size 2 e
      have hup : rch D t t.size 2 e ≤ rowTo (rch D t t.size 2) D t i D.length := by rw [he]; exact a2 k hk hs
      rcases a3 with a3 | ⟨k', hk', hs', a3⟩
      · omega
      · rcases hmax k' hk' hs' with hm | hm
        · omega
        · omega
    refine ⟨(any_iff hT hD hS h4).1 ⟨k, hk, hs⟩, hst, by rw [hfe, hfi, hr3], fun m hm hm5 hms => ?_⟩
    have hmt := hms.1
    rw [far_eq hT hD hS h4 t 2 m hmt, hfi, hr3]
    obtain ⟨k', ⟨hk', hk2, hk3, _⟩, _⟩ := tstands_word hT hD hms
    rcases hmax k' hk' hk2 with hx | hx
    · rw [← hk3] at hx; omega
    · rw [← hk3] at hx; omega
  · left
    refine ⟨fun h => h1 ((any_iff hT hD hS h4).2 h), fun m a b h => h6 m a b ((any_iff hT hD hS h4).2 h), ?_, ?_⟩
    · rcases h5 with h5 | ⟨k, _, hs⟩
      · rw [h5]; exact edge_end t
      · exact hs.1
    · rcases h5 with h5 | h5
      · exact .inl h5
      · exact .inr ((any_iff hT hD hS h4).1 h5)

theorem aheadRun_pairs {D : Dic} {t : ByteArray} {hi : Nat} : ∀ {i : Nat} {l : List Nat}, AheadRun D t hi i l → ∀ k (h : k < l.length), AheadOk D t ((i :: l)[k]'(by simp; omega)) hi (l[k]) ∧ ((i :: l)[k]'(by simp; omega)) < hi := by
  intro i l h
  induction h with
  | done => intro k hk; simp at hk
  | step h1 h2 h3 ih =>
    intro k hk
    cases k with
    | zero => exact ⟨h2, h1⟩
    | succ k =>
      have := ih k (by simpa using hk)
      simpa using this

/-- P10: each piece is the right one. -/
theorem farthest_holds {T : Tab} {E : List Ent} {D : Dic} (hT : TabRep T E) (hD : Rep D E) (hS : Small D) (h4 : ∀ p ∈ D, p.1.size ≤ 4) {s : ByteArray} (hr : OneRun s 99) {l : List Nat} (hc : CutTo D s s.size l) :
    ∀ k (h : k + 1 < l.length), RightOk T s (l[k]'(by omega)) l[k + 1] := by
  intro k hk
  by_cases hs : s.size = 0
  · have e := cut_empty hs hc
    subst e
    simp at hk
  · obtain ⟨l1, rfl, r1, r2⟩ := oneRun_cut hr (by omega) (by omega) hc
    have h0 : sortC (bt s 0) = 99 := oneRun_edge hr (by omega) (edge_zero s)
    have ha : AheadRun D s s.size 0 l1 := by
      rcases r2 with ⟨h, _⟩ | ⟨_, h⟩ | ⟨_, h, _⟩
      · omega
      · exact h
      · exact absurd h0 h
    have hk' : k < l1.length := by simpa using hk
    obtain ⟨p1, p2⟩ := aheadRun_pairs ha k hk'
    have := ahead_right hT hD hS h4 p2 p1
    simpa using this

end Go.Proofs.YtlfpepehngkehaaDoor
