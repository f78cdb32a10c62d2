/-
  Plain mathematics: a dictionary, a word more, a word less, by place.
-/
import Derived.Test.YtlfpepehngkehaaMathD
namespace Go.Proofs.Ytlfpepehngkehaa
set_option linter.unusedSimpArgs false
set_option linter.unusedVariables false

theorem dic_at {D : Dic} {k : Nat} (h : k < D.length) : D = D.take k ++ D[k] :: D.drop (k + 1) := by
  rw [← List.drop_eq_getElem_cons h, List.take_append_drop]

theorem dic_set {D : Dic} {k : Nat} (h : k < D.length) (p : ByteArray × Nat) : D.set k p = D.take k ++ p :: D.drop (k + 1) := by
  rw [List.set_eq_take_append_cons_drop, if_pos h]

theorem rep_set {D : Dic} {E : List Ent} {x : Ent} {k : Nat} (h : Rep D E) (hx : x.inn = true) (hk : k < D.length) (hw : D[k].1 = x.word) : Rep (D.set k (x.word, x.cost)) (E ++ [x]) := by
  rw [dic_set hk]
  have e := dic_at hk
  have e2 : D[k] = (x.word, D[k].2) := by rw [← hw]
  rw [e2] at e
  exact Rep.put_old (c0 := D[k].2) (by rw [← e]; exact h) hx

theorem split_right {D : Dic} {x : ByteArray} {k : Nat} (hs : Srt D) (h : SplitAt D x k) (hn : ∀ (h : k < D.length), D[k].1 ≠ x) : (∀ p ∈ D.take k, wl p.1 x = true) ∧ ∀ p ∈ D.drop k, wl x p.1 = true := by
  obtain ⟨h0, h1, h2⟩ := h
  have gt : ∀ j (hj : j < D.length), k ≤ j → wl x D[j].1 = true := by
    intro j hj hkj
    have hk : k < D.length := by omega
    have a : wl x D[k].1 = true := by
      cases e : wl x D[k].1 with
      | true => rfl
      | false => exact absurd (wl_tri (h2 k hk (Nat.le_refl _)) e) (hn hk)
    by_cases e : j = k
    · subst e; exact a
    · exact wl_trans a (List.pairwise_iff_getElem.1 hs k j hk hj (by omega))
  constructor
  · intro p hp
    obtain ⟨j, hj, rfl⟩ := List.mem_iff_getElem.1 hp
    simp at hj
    rw [List.getElem_take]
    exact h1 j (by omega) (by omega)
  · intro p hp
    obtain ⟨j, hj, rfl⟩ := List.mem_iff_getElem.1 hp
    simp at hj
    rw [List.getElem_drop]
    exact gt (k + j) (by omega) (by omega)

theorem rep_ins {D : Dic} {E : List Ent} {x : Ent} {k : Nat} (h : Rep D E) (hx : x.inn = true) (hs : SplitAt D x.word k) (hn : ∀ (h : k < D.length), D[k].1 ≠ x.word) : Rep (D.take k ++ (x.word, x.cost) :: D.drop k) (E ++ [x]) := by
  obtain ⟨a, b⟩ := split_right h.1 hs hn
  exact Rep.put_new (by rw [List.take_append_drop]; exact h) hx a b

theorem rep_del {D : Dic} {E : List Ent} {x : Ent} {k : Nat} (h : Rep D E) (hx : x.inn = false) (hk : k < D.length) (hw : D[k].1 = x.word) : Rep (D.take k ++ D.drop (k + 1)) (E ++ [x]) := by
  have e := dic_at hk
  have e2 : D[k] = (x.word, D[k].2) := by rw [← hw]
  rw [e2] at e
  exact Rep.drop_old (c0 := D[k].2) (by rw [← e]; exact h) hx

theorem rep_del_none {D : Dic} {E : List Ent} {x : Ent} {k : Nat} (h : Rep D E) (hx : x.inn = false) (hs : SplitAt D x.word k) (hn : ∀ (h : k < D.length), D[k].1 ≠ x.word) : Rep D (E ++ [x]) := by
  obtain ⟨a, b⟩ := split_right h.1 hs hn
  refine Rep.drop_none h hx fun c hc => ?_
  rw [← List.take_append_drop k D, List.mem_append] at hc
  rcases hc with hc | hc
  · exact absurd rfl (wl_ne (a _ hc))
  · exact absurd rfl (wl_ne (b _ hc)).symm

/-- a row in which the place i is being freed: what stands behind i has moved by one. -/
def hole (D : Dic) (i : Nat) (p : ByteArray × Nat) : Dic := D.take i ++ p :: D.drop i

theorem hole_length {D : Dic} {i : Nat} {p : ByteArray × Nat} (h : i ≤ D.length) : (hole D i p).length = D.length + 1 := by simp [hole]; omega
theorem hole_end (D : Dic) (p : ByteArray × Nat) : hole D D.length p = D ++ [p] := by simp [hole]
theorem hole_before {D : Dic} {i j : Nat} {p : ByteArray × Nat} (h : i ≤ D.length) (hj : j < i) : (hole D i p)[j]'(by rw [hole_length h]; omega) = D[j] := by
  unfold hole
  rw [List.getElem_append_left (by simp; omega), List.getElem_take]
theorem hole_step {D : Dic} {i : Nat} {p : ByteArray × Nat} (h : i < D.length) : (hole D (i + 1) p).set (i + 1) D[i] = hole D i D[i] := by
  unfold hole
  rw [List.set_append_right _ _ (by simp; omega)]
  have e : i + 1 - (D.take (i + 1)).length = 0 := by simp; omega
  rw [e, List.set_cons_zero, List.take_succ_eq_append_getElem h, List.drop_eq_getElem_cons h]
  simp only [List.append_assoc, List.singleton_append]
theorem hole_fill {D : Dic} {i : Nat} {p q : ByteArray × Nat} (h : i ≤ D.length) : (hole D i p).set i q = hole D i q := by
  unfold hole
  rw [List.set_append_right _ _ (by simp; omega)]
  have e : i - (D.take i).length = 0 := by simp; omega
  rw [e, List.set_cons_zero]

/-- a dictionary without the word at k. -/
def del (D : Dic) (k : Nat) : Dic := D.take k ++ D.drop (k + 1)
/-- the same on the way: up to i the words have moved. -/
def shl (D : Dic) (k i : Nat) : Dic := (del D k).take i ++ D.drop i

theorem del_length {D : Dic} {k : Nat} (h : k < D.length) : (del D k).length = D.length - 1 := by simp [del]; omega
theorem shl_length {D : Dic} {k i : Nat} (h : k < D.length) (hi : i < D.length) : (shl D k i).length = D.length := by
  have := del_length h
  simp [shl]; omega
theorem shl_start {D : Dic} {k : Nat} (h : k < D.length) : shl D k k = D := by
  unfold shl del
  rw [List.take_append_of_le_length (by simp; omega), List.take_take, Nat.min_self, List.take_append_drop]
theorem shl_next {D : Dic} {k i : Nat} (h : k < D.length) (hi : i + 1 < D.length) : (shl D k i)[i + 1]'(by rw [shl_length h (by omega)]; omega) = D[i + 1] := by
  have := del_length h
  unfold shl
  rw [List.getElem_append_right (by simp; omega), List.getElem_drop]
  congr 1
  simp
  omega
theorem shl_step {D : Dic} {k i : Nat} (h : k < D.length) (hk : k ≤ i) (hi : i + 1 < D.length) : (shl D k i).set i D[i + 1] = shl D k (i + 1) := by
  have hd := del_length h
  have he : (del D k)[i]'(by omega) = D[i + 1] := by
    unfold del
    rw [List.getElem_append_right (by simp; omega), List.getElem_drop]
    congr 1
    simp
    omega
  unfold shl
  rw [List.set_append_right _ _ (by simp; omega)]
  have e : i - ((del D k).take i).length = 0 := by simp; omega
  rw [e, List.drop_eq_getElem_cons (by omega), List.set_cons_zero, List.take_succ_eq_append_getElem (by omega), he]
  simp only [List.append_assoc, List.singleton_append]
theorem shl_end {D : Dic} {k m : Nat} (h : k < D.length) (hm : D.length = m + 1) (p : ByteArray × Nat) : (shl D k m).set m p = del D k ++ [p] := by
  have hd := del_length h
  unfold shl
  rw [List.set_append_right _ _ (by simp; omega)]
  have e : m - ((del D k).take m).length = 0 := by simp; omega
  rw [e, List.drop_eq_getElem_cons (by omega), List.set_cons_zero, List.drop_of_length_le (by omega), List.take_of_length_le (by omega)]

theorem srt_before {D : Dic} (hs : Srt D) {i j : Nat} (hj : j < D.length) (hij : i < j) : wl D[i].1 D[j].1 = true := List.pairwise_iff_getElem.1 hs i j (by omega) hj hij

theorem find_up {D : Dic} (hs : Srt D) {m : Nat} {x : ByteArray} (hm : m < D.length) (h : wl D[m].1 x = true) : ∀ j (hj : j < D.length), j < m + 1 → wl D[j].1 x = true := by
  intro j hj hjm
  by_cases e : j = m
  · subst e; exact h
  · exact wl_trans (srt_before hs hm (by omega)) h

theorem find_down {D : Dic} (hs : Srt D) {m : Nat} {x : ByteArray} (hm : m < D.length) (h : wl D[m].1 x = false) : ∀ j (hj : j < D.length), m ≤ j → wl D[j].1 x = false := by
  intro j hj hjm
  by_cases e : j = m
  · subst e; exact h
  · cases e' : wl D[j].1 x with
    | false => rfl
    | true => have := wl_trans (srt_before hs (i := m) hj (by omega)) e'; rw [h] at this; cases this

end Go.Proofs.Ytlfpepehngkehaa
