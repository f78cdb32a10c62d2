/-
  Plain mathematics: the automaton runs over entries; what the program answers is what the reference answers.
-/
import Derived.Test.YtlfpepehngkehaaMathB
namespace Go.Proofs.Ytlfpepehngkehaa
set_option linter.unusedSimpArgs false
set_option linter.unusedVariables false

def Start (f : St) : Prop := f.n = 0 ∧ f.sm = false ∧ f.cost = 0 ∧ (f.st = 0 ∨ f.st = 1)

theorem stp_ok {s : ByteArray} {i : Nat} {f g : St} (h : stp s i = some f) (hn : nxt f (bt s i) = (g, true)) : stp s (i + 1) = some g := by
  rw [stp_succ h, hn]; simp
theorem stp_no {s : ByteArray} {i : Nat} {f : St} (h : stp s i = some f) (hn : (nxt f (bt s i)).2 = false) : stp s (i + 1) = none := by
  rw [stp_succ h, hn]; simp

theorem nxt_start {f : St} {c : Nat} (h : Start f) : nxt f c = (⟨2, 1, smB c, 0⟩, smB c || cpB c) := by
  obtain ⟨_, _, _, h⟩ := h
  unfold nxt
  rw [if_pos h]

theorem sm_of {c : Nat} (h : srt c = 1 ∨ srt c = 2) : (smB c || cpB c) = true := by
  rcases h with h | h
  · rw [srt_1] at h; simp [smB, h]
  · rw [srt_2] at h; simp [cpB, h]

theorem sm_no {c : Nat} (h : srt c ≠ 1 ∧ srt c ≠ 2) : (smB c || cpB c) = false := by
  have h1 : ¬ (97 ≤ c ∧ c ≤ 122) := fun e => h.1 (srt_1.2 e)
  have h2 : ¬ (65 ≤ c ∧ c ≤ 90) := fun e => h.2 (srt_2.2 e)
  simp [smB, cpB]
  omega

/-- does c go on with a word that began with b? -/
theorem fits_iff {b c : Nat} (hb : srt b = 1 ∨ srt b = 2) : ((((c : Int) == 126 || (smB b && smB c)) || (!(smB b) && cpB c)) = true) ↔ (srt c = srt b ∨ srt c = 4) := by
  rcases hb with hb | hb
  · have h1 := srt_1.1 hb
    have h2 : smB b = true := smB_iff.2 h1
    rw [hb, h2]
    simp [srt_1, srt_4, smB_iff]
    omega
  · have h1 := srt_2.1 hb
    have h2 : smB b = false := by simp [smB]; omega
    rw [hb, h2]
    simp [srt_2, srt_4, cpB_iff]
    omega

theorem nxt_word {n b c : Nat} : nxt ⟨2, n, smB b, 0⟩ c = lts ⟨2, n, smB b, 0⟩ c := by simp [nxt]

theorem lts_fit {n b c : Nat} (hb : srt b = 1 ∨ srt b = 2) (hc : srt c = srt b ∨ srt c = 4) (hn : n < 12) : lts ⟨2, n, smB b, 0⟩ c = (⟨2, n + 1, smB b, 0⟩, true) := by
  have := (fits_iff (b := b) (c := c) hb).2 hc
  unfold lts
  rw [if_pos (by simp only [Bool.and_eq_true, decide_eq_true_eq]; exact ⟨this, hn⟩)]

theorem lts_unfit {n b c : Nat} (hb : srt b = 1 ∨ srt b = 2) (h : n = 12 ∨ ¬ (srt c = srt b ∨ srt c = 4)) :
    lts ⟨2, n, smB b, 0⟩ c = if (c : Int) == 61 then (⟨3, 0, false, 0⟩, true) else if (c : Int) == 33 then (⟨5, 0, false, 0⟩, true) else (⟨2, n, smB b, 0⟩, false) := by
  unfold lts
  rw [if_neg]
  simp only [Bool.and_eq_true, decide_eq_true_eq]
  rintro ⟨h1, h2⟩
  rcases h with h | h
  · omega
  · exact h ((fits_iff (b := b) (c := c) hb).1 h1)

theorem word_run {s : ByteArray} {k n : Nat} {f : St} (h : stp s k = some f) (hf : Start f) (hw : WordAt s k n) : ∀ j, 1 ≤ j → j ≤ n → stp s (k + j) = some ⟨2, j, smB (bt s k), 0⟩ ∧ hgh s (k + j) = hgh s k := by
  intro j h1 hj
  rcases hw with ⟨rfl, _⟩ | ⟨_, h12, hs, hl, hall, _⟩
  · omega
  · induction j with
    | zero => omega
    | succ j ih =>
      by_cases hj0 : j = 0
      · subst hj0
        have e : nxt f (bt s k) = (⟨2, 1, smB (bt s k), 0⟩, true) := by rw [nxt_start hf, sm_of hl]
        have hs1 := stp_ok h e
        refine ⟨hs1, ?_⟩
        show hgh s (k + 1) = _
        rw [hgh_succ hs1]
        simp
      · obtain ⟨i1, i2⟩ := ih (by omega) (by omega)
        have e : nxt ⟨2, j, smB (bt s k), 0⟩ (bt s (k + j)) = (⟨2, j + 1, smB (bt s k), 0⟩, true) := by
          rw [nxt_word, lts_fit hl (hall (k + j) (by omega) (by omega)) (by omega)]
        have hs1 := stp_ok i1 e
        refine ⟨hs1, ?_⟩
        show hgh s (k + j + 1) = _
        rw [hgh_succ hs1]
        simp [i2]

theorem digits_run {s : ByteArray} {k m : Nat} (h : stp s k = some ⟨3, 0, false, 0⟩) (hd : DigitsAt s k m) : ∀ j, j ≤ m → stp s (k + j) = some ⟨if j = 0 then 3 else 4, j, false, num s k j⟩ ∧ hgh s (k + j) = if hgh s k < 0 ∧ 1000 < num s k j then (k : Int) else hgh s k := by
  obtain ⟨h4, hs, hall, _⟩ := hd
  intro j hj
  induction j with
  | zero => simp [h, num]
  | succ j ih =>
    obtain ⟨i1, i2⟩ := ih (by omega)
    have hdg := srt_3.1 (hall (k + j) (by omega) (by omega))
    have hd2 : dgB (bt s (k + j)) = true := dgB_iff.2 hdg
    have e : nxt ⟨if j = 0 then 3 else 4, j, false, num s k j⟩ (bt s (k + j)) = (⟨4, j + 1, false, num s k (j + 1)⟩, true) := by
      unfold nxt
      have hst : (if j = 0 then 3 else 4) = 3 ∨ (if j = 0 then 3 else 4) = 4 := by split <;> simp
      rw [if_neg (by simp only; omega), if_neg (by simp only; omega), if_neg (by simp only; omega), if_pos (by simp only [hd2, Bool.true_and, decide_eq_true_eq]; omega)]
      simp [num]
    have hs1 := stp_ok i1 e
    refine ⟨by rw [if_neg (by omega)]; exact hs1, ?_⟩
    show hgh s (k + j + 1) = _
    rw [hgh_succ hs1, i2]
    have hmono : num s k j ≤ num s k (j + 1) := by simp only [num]; omega
    simp only
    by_cases a : hgh s k < 0
    · by_cases b : 1000 < num s k j
      · have c : 1000 < num s k (j + 1) := by omega
        simp only [a, b, c, and_self, if_true]
        rw [if_neg (by omega)]
      · simp only [a, b, and_false, if_false, true_and, and_true]
        split <;> omega
    · simp [a]

theorem nxt_out {c : Nat} : nxt ⟨5, 0, false, 0⟩ c = (⟨1, 0, false, 0⟩, (c : Int) == 44) := by simp [nxt]
theorem nxt_digits {m v c : Nat} (h : m = 4 ∨ srt c ≠ 3) : nxt ⟨4, m, false, v⟩ c = (⟨1, 0, false, 0⟩, (c : Int) == 44) := by
  unfold nxt
  rw [if_neg (by simp), if_neg (by simp), if_neg (by simp), if_neg]
  · simp
  · simp only [Bool.and_eq_true, decide_eq_true_eq]
    rintro ⟨h1, h2⟩
    rw [dgB_iff] at h1
    rcases h with h | h
    · omega
    · exact h (srt_3.2 h1)

theorem srt33 : srt 33 = 0 := rfl
theorem srt61 : srt 61 = 0 := rfl

/-- behind a word. -/
theorem behind_word {s : ByteArray} {k n : Nat} {f : St} (h : stp s k = some f) (hf : Start f) (hw : WordAt s k n) (hn : 1 ≤ n) (hlt : k + n < s.size) :
    nxt ⟨2, n, smB (bt s k), 0⟩ (bt s (k + n)) = if (bt s (k + n) : Int) == 61 then (⟨3, 0, false, 0⟩, true) else if (bt s (k + n) : Int) == 33 then (⟨5, 0, false, 0⟩, true) else (⟨2, n, smB (bt s k), 0⟩, false) := by
  rcases hw with ⟨rfl, _⟩ | ⟨_, h12, hs, hl, hall, hmax⟩
  · omega
  · rw [nxt_word, lts_unfit hl]
    rcases hmax with a | a | a
    · omega
    · exact .inl a
    · exact .inr (fun e => by rcases e with e | e; exact a.1 e; exact a.2 e)

theorem good_run {s : ByteArray} {k p : Nat} {x : Ent} {f : St} (h : stp s k = some f) (hf : Start f) (hg : GoodEntry s k x p) :
    ∃ g, stp s p = some g ∧ acc g ∧ (p < s.size → nxt g (bt s p) = (⟨1, 0, false, 0⟩, (bt s p : Int) == 44)) ∧ hgh s p = if hgh s k < 0 ∧ 1000 < x.cost then (x.dig : Int) else hgh s k := by
  obtain ⟨n, hw, h1, hlt, _, hx⟩ := hg
  have hb := behind_word h hf hw h1 hlt
  obtain ⟨r1, r2⟩ := word_run h hf hw n h1 (Nat.le_refl _)
  rcases hx with ⟨h33, _, hc, hd, rfl⟩ | ⟨h61, m, hm, hdg, _, hc, hd, rfl⟩
  · have e : nxt ⟨2, n, smB (bt s k), 0⟩ (bt s (k + n)) = (⟨5, 0, false, 0⟩, true) := by rw [hb, h33]; simp
    have hs1 := stp_ok r1 e
    refine ⟨_, hs1, .inr (.inr rfl), fun _ => nxt_out, ?_⟩
    rw [hgh_succ hs1, hc, r2]
    simp
  · have e : nxt ⟨2, n, smB (bt s k), 0⟩ (bt s (k + n)) = (⟨3, 0, false, 0⟩, true) := by rw [hb, h61]; simp
    have hs1 := stp_ok r1 e
    have hh : hgh s (k + n + 1) = hgh s k := by rw [hgh_succ hs1, r2]; simp
    obtain ⟨d1, d2⟩ := digits_run hs1 hdg m (Nat.le_refl _)
    rw [if_neg (by omega)] at d1
    refine ⟨_, d1, .inr (.inl rfl), fun hp => ?_, ?_⟩
    · apply nxt_digits
      obtain ⟨_, _, _, hmax⟩ := hdg
      rcases hmax with a | a | a
      · omega
      · exact .inl a
      · exact .inr a
    · rw [d2, hh, hc, hd]

def Stuck (s : ByteArray) (p : Nat) : Prop := (p < s.size ∧ ∃ f, stp s p = some f ∧ stp s (p + 1) = none) ∨ (p = s.size ∧ ∃ f, stp s s.size = some f ∧ ¬ acc f)

theorem bad_run {s : ByteArray} {k p : Nat} {f : St} (h : stp s k = some f) (hf : Start f) (hk : k < s.size) (hg : BadEntry s k p) : Stuck s p := by
  obtain ⟨n, hw, hx⟩ := hg
  by_cases hn : n = 0
  · subst hn
    rcases hx with ⟨_, rfl⟩ | ⟨a, _⟩ | ⟨a, _⟩
    · rcases hw with ⟨_, hw⟩ | ⟨a, _⟩
      · rcases hw with a | a
        · omega
        · exact .inl ⟨hk, f, h, stp_no h (by rw [nxt_start hf]; exact sm_no a)⟩
      · omega
    · omega
    · omega
  · obtain ⟨r1, r2⟩ := word_run h hf hw n (by omega) (Nat.le_refl _)
    rcases hx with ⟨a, rfl⟩ | ⟨_, hlt, h33, h61, rfl⟩ | ⟨_, hlt, h61, hdg, rfl⟩
    · rcases a with a | a
      · omega
      · rw [a] at r1
        exact .inr ⟨a, _, r1, fun e => by rcases e with e | e | e <;> simp at e⟩
    · have hb := behind_word h hf hw (by omega) hlt
      have t61 : ((bt s (k + n) : Int) == 61) = false := beq_eq_false_iff_ne.2 (by omega)
      have t33 : ((bt s (k + n) : Int) == 33) = false := beq_eq_false_iff_ne.2 (by omega)
      exact .inl ⟨hlt, _, r1, stp_no r1 (by rw [hb, t61, t33]; rfl)⟩
    · have hb := behind_word h hf hw (by omega) hlt
      have e : nxt ⟨2, n, smB (bt s k), 0⟩ (bt s (k + n)) = (⟨3, 0, false, 0⟩, true) := by rw [hb, h61]; simp
      have hs1 := stp_ok r1 e
      by_cases hl : k + n + 1 < s.size
      · refine .inl ⟨hl, _, hs1, stp_no hs1 ?_⟩
        obtain ⟨_, _, _, hmax⟩ := hdg
        have hnd : dgB (bt s (k + n + 1)) = false := by
          rcases hmax with a | a | a
          · omega
          · omega
          · cases e : dgB (bt s (k + n + 1)) with
            | false => rfl
            | true => exact absurd (srt_3.2 (dgB_iff.1 e)) a
        simp [nxt, hnd]
      · have hl' : k + n + 1 = s.size := by omega
        rw [hl'] at hs1
        exact .inr ⟨hl', _, hs1, fun e => by rcases e with e | e | e <;> simp at e⟩

/-- the first cost above its bound among entries. -/
def hghE : Int → List Ent → Int
  | h, [] => h
  | h, x :: E => hghE (if h < 0 ∧ 1000 < x.cost then (x.dig : Int) else h) E

theorem chain_run {s : ByteArray} {q : Nat} : ∀ {E : List Ent} {k : Nat} {f : St}, stp s k = some f → Start f → Chain s k E q → ∃ g, stp s q = some g ∧ Start g ∧ hgh s q = hghE (hgh s k) E ∧ (E = [] → g = f) ∧ (E ≠ [] → g.st = 1)
  | [], k, f, h, hf, hc => by cases hc; exact ⟨f, h, hf, rfl, fun _ => rfl, fun a => absurd rfl a⟩
  | x :: E, k, f, h, hf, hc => by
    obtain ⟨p, hg, hp, h44, hc⟩ := hc
    obtain ⟨g, h1, h2, h3, h4⟩ := good_run h hf hg
    have e : nxt g (bt s p) = (⟨1, 0, false, 0⟩, true) := by rw [h3 hp, h44]; rfl
    have hs1 := stp_ok h1 e
    obtain ⟨g', i1, i2, i3, i4, i5⟩ := chain_run hs1 ⟨rfl, rfl, rfl, .inr rfl⟩ hc
    refine ⟨g', i1, i2, ?_, (fun a => by cases a), fun _ => ?_⟩
    · rw [i3, hgh_succ hs1, h4]
      simp [hghE]
    · by_cases hE : E = []
      · rw [i4 hE]
      · exact i5 hE

theorem hghE_append (h : Int) (E : List Ent) (x : Ent) : hghE h (E ++ [x]) = if hghE h E < 0 ∧ 1000 < x.cost then (x.dig : Int) else hghE h E := by
  induction E generalizing h with
  | nil => rfl
  | cons y E ih => exact ih _

theorem hghE_pos (h : Int) (hh : 0 ≤ h) (E : List Ent) : hghE h E = h := by
  induction E with
  | nil => rfl
  | cons x E ih => simp only [hghE]; rw [if_neg (by omega), ih]

theorem hghE_none (E : List Ent) (h : ∀ j (hj : j < E.length), E[j].cost ≤ 1000) : hghE (-1) E = -1 := by
  induction E with
  | nil => rfl
  | cons x E ih =>
    simp only [hghE]
    have h0 := h 0 (by simp)
    simp at h0
    rw [if_neg (by omega)]
    exact ih fun j hj => by have := h (j + 1) (by simp; omega); simpa using this

theorem hghE_first (E : List Ent) (k : Nat) (hk : k < E.length) (hc : 1000 < E[k].cost) (h : ∀ j (hj : j < k), E[j].cost ≤ 1000) : hghE (-1) E = E[k].dig := by
  induction E generalizing k with
  | nil => simp at hk
  | cons x E ih =>
    simp only [hghE]
    cases k with
    | zero => simp at hc ⊢; rw [if_pos hc, hghE_pos _ (by omega)]
    | succ k =>
      have h0 := h 0 (by omega)
      simp at h0
      rw [if_neg (by omega)]
      have := ih k (by simpa using hk) (by simpa using hc) (fun j hj => by have := h (j + 1) (by omega); simpa using this)
      simpa using this

theorem start0 : Start ⟨0, 0, false, 0⟩ := ⟨rfl, rfl, rfl, .inl rfl⟩

theorem stuck_res {s : ByteArray} {p : Nat} (hs : s.size ≤ 2000) (h : Stuck s p) : RefRes s 2 p := by
  rcases h with ⟨a, f, h1, h2⟩ | ⟨rfl, f, h1, h2⟩
  · exact .inr (.inl ⟨hs, p, f, a, h1, h2, rfl, rfl⟩)
  · exact .inr (.inr (.inl ⟨hs, f, h1, h2, rfl, rfl⟩))

theorem badList_res {s : ByteArray} {p : Nat} (hs : s.size ≤ 2000) (h : BadList s p) : RefRes s 2 p := by
  obtain ⟨E, q, hc, hx⟩ := h
  obtain ⟨g, h1, h2, _, _, h5⟩ := chain_run (f := ⟨0, 0, false, 0⟩) rfl start0 hc
  apply stuck_res hs
  rcases hx with ⟨hq, hb⟩ | ⟨x, hg, hp, h44⟩ | ⟨hq, hq0, rfl⟩
  · exact bad_run h1 h2 hq hb
  · obtain ⟨g', i1, _, i3, _⟩ := good_run h1 h2 hg
    exact .inl ⟨hp, g', i1, stp_no i1 (by rw [i3 hp]; exact beq_eq_false_iff_ne.2 (by omega))⟩
  · have hE : E ≠ [] := fun e => by rw [e] at hc; exact hq0 hc
    have h1' : stp s s.size = some g := by rw [← hq]; exact h1
    refine .inr ⟨hq, g, h1', fun ha => ?_⟩
    have := h5 hE
    rcases ha with a | a | a <;> omega

theorem goodList_run {s : ByteArray} {E : List Ent} (h : GoodList s E) : ∃ f, stp s s.size = some f ∧ acc f ∧ hgh s s.size = hghE (-1) E := by
  rcases h with ⟨rfl, h0⟩ | ⟨E', x, q, rfl, hc, hg⟩
  · rw [h0]; exact ⟨⟨0, 0, false, 0⟩, rfl, .inl rfl, rfl⟩
  · obtain ⟨g, h1, h2, h3, _, _⟩ := chain_run (f := ⟨0, 0, false, 0⟩) rfl start0 hc
    obtain ⟨g', i1, i2, _, i4⟩ := good_run h1 h2 hg
    refine ⟨g', i1, i2, ?_⟩
    rw [i4, h3, hghE_append]
    rfl

theorem goodList_ok {s : ByteArray} {E : List Ent} (hs : s.size ≤ 2000) (h : GoodList s E) (hc : ∀ j (hj : j < E.length), E[j].cost ≤ 1000) : RefRes s 0 0 := by
  obtain ⟨f, h1, h2, h3⟩ := goodList_run h
  rw [hghE_none E hc] at h3
  exact .inr (.inr (.inr (.inr ⟨hs, f, h1, h2, by omega, rfl, rfl⟩)))

theorem goodList_cost {s : ByteArray} {E : List Ent} (hs : s.size ≤ 2000) (h : GoodList s E) (k : Nat) (hk : k < E.length) (hx : 1000 < E[k].cost) (hc : ∀ j (hj : j < k), E[j].cost ≤ 1000) : RefRes s 3 E[k].dig := by
  obtain ⟨f, h1, h2, h3⟩ := goodList_run h
  rw [hghE_first E k hk hx hc] at h3
  exact .inr (.inr (.inr (.inl ⟨hs, f, h1, h2, by omega, rfl, h3.symm⟩)))

end Go.Proofs.Ytlfpepehngkehaa
