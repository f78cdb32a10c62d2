/-
  Plain mathematics: what is read of an image is the dictionary.
-/
import Derived.Test.YtlfpepehngkehaaMathJ
import Derived.Test.YtlfpepehngkehaaMathB
namespace Go.Proofs.Ytlfpepehngkehaa
set_option linter.unusedSimpArgs false
set_option linter.unusedVariables false

theorem bt_listK (s : ByteArray) (i : Nat) : bt s i = (s.toList.getD i 0).toNat := by unfold bt; rw [ByteArray.toList_eq]

theorem bt_mid {s : ByteArray} {A B C : List UInt8} (h : s.toList = A ++ (B ++ C)) (j : Nat) (hj : j < B.length) : bt s (A.length + j) = (B.getD j 0).toNat := by
  rw [bt_listK, h]
  simp only [List.getD_eq_getElem?_getD]
  rw [List.getElem?_append_right (by omega), Nat.add_sub_cancel_left, List.getElem?_append_left hj]

theorem toList_extract (s : ByteArray) (a b : Nat) : (s.extract a b).toList = (s.toList.drop a).take (b - a) := by
  rw [ByteArray.toList_eq, ByteArray.toList_eq, ByteArray.data_extract]
  simp [Array.toList_extract, List.extract]

theorem lcp_take : ∀ x y : List UInt8, x.take (lcpL x y) = y.take (lcpL x y)
  | [], y => by simp [lcpL]
  | _ :: _, [] => by simp [lcpL]
  | a :: x, b :: y => by
    simp only [lcpL]
    split
    · rename_i e
      subst e
      rw [List.take_succ_cons, List.take_succ_cons, lcp_take x y]
    · simp

theorem encTo_prefix (D : Dic) (i : Nat) : ∀ j, i ≤ j → ∃ R, encTo D j = encTo D i ++ R := by
  intro j h
  induction h with
  | refl => exact ⟨[], by simp⟩
  | @step m _ ih =>
    obtain ⟨R, hR⟩ := ih
    refine ⟨R ++ encE (prevW D m) (D.getD m (ByteArray.empty, 0)).1.toList (D.getD m (ByteArray.empty, 0)).2, ?_⟩
    simp only [Nat.succ_eq_add_one, encTo]
    rw [hR, List.append_assoc]

def Fits (D : Dic) : Prop := ∀ p ∈ D, p.1.size < 256 ∧ p.2 < 65536

theorem u8_of {n : Nat} (h : n < 256) : (UInt8.ofNat n).toNat = n := by simp; omega

theorem guessG_image {s : ByteArray} {D : Dic} (hD : Fits D) (hs : s.toList = imageL D) : ∀ (n i : Nat), D.length - i = n → i ≤ D.length → ∀ (f : Nat) (last : ByteArray), last.toList = prevW D i → s.size ≤ f + (encTo D i).length →
    guessG s f (encTo D i).length last = D.drop i := by
  intro n
  induction n with
  | zero =>
    intro i hn hi f last _ _
    obtain rfl : i = D.length := by omega
    rw [guessG_stop, List.drop_length]
    intro h
    have := toList_length s
    rw [hs] at this
    simp [imageL] at this
    omega
  | succ n ih =>
    intro i hn hi f last hl hf
    have hlt : i < D.length := by omega
    obtain ⟨hw, hc⟩ := hD D[i] (List.getElem_mem hlt)
    obtain ⟨R, hR⟩ := encTo_prefix D (i + 1) D.length hlt
    have hg : D.getD i (ByteArray.empty, 0) = D[i] := by rw [List.getD_eq_getElem?_getD, List.getElem?_eq_getElem hlt, Option.getD_some]
    have hen : encTo D (i + 1) = encTo D i ++ encE (prevW D i) D[i].1.toList D[i].2 := by simp only [encTo]; rw [hg]
    obtain ⟨k, hk⟩ : ∃ k, k = lcpL (prevW D i) D[i].1.toList := ⟨_, rfl⟩
    obtain ⟨hk1, hk2⟩ := lcpL_le (prevW D i) D[i].1.toList
    have htk := lcp_take (prevW D i) D[i].1.toList
    rw [← hk] at hk1 hk2 htk
    have hwl : D[i].1.toList.length = D[i].1.size := toList_length _
    have hee : encE (prevW D i) D[i].1.toList D[i].2 = UInt8.ofNat k :: UInt8.ofNat (D[i].1.size - k) :: (D[i].1.toList.drop k ++ twoL D[i].2) := by simp [encE, ← hk, hwl]
    obtain ⟨E, hE⟩ : ∃ E, E = encE (prevW D i) D[i].1.toList D[i].2 := ⟨_, rfl⟩
    rw [← hE] at hen hee
    have hEl : E.length = 4 + (D[i].1.size - k) := by rw [hee]; simp [twoL]; omega
    have hsl : s.toList = encTo D i ++ (E ++ (R ++ [sumL (encTo D D.length)])) := by rw [hs, imageL, hR, hen]; simp
    have hsz : s.size = (encTo D i).length + E.length + R.length + 1 := by rw [← toList_length, hsl]; simp; omega
    have e0 : bt s (encTo D i).length = k := by
      have := bt_mid hsl 0 (by omega)
      rw [Nat.add_zero] at this
      rw [this, hee]
      exact u8_of (by omega)
    have e1 : bt s ((encTo D i).length + 1) = D[i].1.size - k := by
      rw [bt_mid hsl 1 (by omega), hee]
      exact u8_of (by omega)
    have hdl : (D[i].1.toList.drop k).length = D[i].1.size - k := by rw [List.length_drop, hwl]
    have ex : (s.extract ((encTo D i).length + 2) ((encTo D i).length + 2 + (D[i].1.size - k))).toList = D[i].1.toList.drop k := by
      rw [toList_extract, hsl, List.drop_append, List.drop_of_length_le (by omega), hee]
      rw [show (encTo D i).length + 2 - (encTo D i).length = 2 by omega, show (encTo D i).length + 2 + (D[i].1.size - k) - ((encTo D i).length + 2) = (D[i].1.toList.drop k).length by omega]
      simp
    have e2 : bt s ((encTo D i).length + 2 + (D[i].1.size - k)) = D[i].2 % 256 := by
      rw [show (encTo D i).length + 2 + (D[i].1.size - k) = (encTo D i).length + (2 + (D[i].1.size - k)) by omega, bt_mid hsl _ (by omega), hee, List.getD_eq_getElem?_getD, show 2 + (D[i].1.size - k) = (D[i].1.size - k) + 1 + 1 by omega, List.getElem?_cons_succ, List.getElem?_cons_succ, List.getElem?_append_right (by omega), hdl]
      simp [twoL]
    have e3 : bt s ((encTo D i).length + 2 + (D[i].1.size - k) + 1) = D[i].2 / 256 := by
      rw [show (encTo D i).length + 2 + (D[i].1.size - k) + 1 = (encTo D i).length + (2 + (D[i].1.size - k) + 1) by omega, bt_mid hsl _ (by omega), hee, List.getD_eq_getElem?_getD, show 2 + (D[i].1.size - k) + 1 = (D[i].1.size - k + 1) + 1 + 1 by omega, List.getElem?_cons_succ, List.getElem?_cons_succ, List.getElem?_append_right (by omega), hdl]
      rw [show D[i].1.size - k + 1 - (D[i].1.size - k) = 1 by omega]
      simp [twoL]
      omega
    have hls : last.size = (prevW D i).length := by rw [← toList_length, hl]
    obtain ⟨f', hf', hst⟩ := guessG_step (s := s) (f := f) (k := (encTo D i).length) (last := last) hf (by omega) (by omega) (by omega)
    have hnx : last.extract 0 k ++ s.extract ((encTo D i).length + 2) ((encTo D i).length + 2 + (D[i].1.size - k)) = D[i].1 := by
      apply ba_ext
      rw [toList_append, ex, toList_extract, hl]
      simp only [List.drop_zero, Nat.sub_zero]
      rw [htk, List.take_append_drop]
    rw [hst, e0, e1, e2, e3, hnx]
    rw [e1] at hf'
    have hat : (encTo D i).length + 2 + (D[i].1.size - k) + 2 = (encTo D (i + 1)).length := by rw [hen, List.length_append]; omega
    rw [hat] at hf' ⊢
    rw [ih (i + 1) (by omega) hlt f' D[i].1 (by simp only [prevW]; rw [hg]) hf']
    rw [List.drop_eq_getElem_cons hlt]
    congr 1
    exact Prod.ext rfl (by simp only; omega)

theorem guess_image {s : ByteArray} {D : Dic} (hD : Fits D) (hs : s.toList = imageL D) : guessD s = D := by
  have := guessG_image hD hs D.length 0 (by omega) (by omega) s.size ByteArray.empty (by simp [prevW, ByteArray.toList_eq]) (by omega)
  have h4 : (encTo D 0).length = 4 := by simp [encTo, twoL]
  rw [h4] at this
  exact this

/-! words -/
/-- the first n bytes are those of a word, as far as they go. -/
def WordPre (x : ByteArray) (n : Nat) : Prop := 1 ≤ n ∧ n ≤ 12 ∧ n ≤ x.size ∧ (srt (bt x 0) = 1 ∨ srt (bt x 0) = 2) ∧ ∀ j, 0 < j → j < n → srt (bt x j) = srt (bt x 0) ∨ srt (bt x j) = 4

def IsWord (x : ByteArray) : Prop := WordPre x x.size

theorem isWord_at {x : ByteArray} : IsWord x ↔ 1 ≤ x.size ∧ WordAt x 0 x.size := by
  constructor
  · rintro ⟨h1, h2, h3, h4, h5⟩
    exact ⟨h1, .inr ⟨h1, h2, by omega, h4, (fun j a b => h5 j a (by omega)), .inl (by omega)⟩⟩
  · rintro ⟨h1, h⟩
    rcases h with ⟨h, _⟩ | ⟨a, b, c, d, e, _⟩
    · omega
    · exact ⟨a, b, by omega, d, fun j u v => e j u (by omega)⟩

/-- the state of the reference behind the first n bytes of a word. -/
def wordSt (x : ByteArray) (n : Nat) : St := if n = 0 then ⟨0, 0, false, 0⟩ else ⟨2, n, smB (bt x 0), 0⟩

theorem wordSt_step {x : ByteArray} {n : Nat} (hn : n < x.size) (h : n = 0 ∨ WordPre x n) :
    ((nxt (wordSt x n) (bt x n)).2 = true ∧ (nxt (wordSt x n) (bt x n)).1.st = 2 ↔ WordPre x (n + 1)) ∧ (WordPre x (n + 1) → (nxt (wordSt x n) (bt x n)).1 = wordSt x (n + 1)) := by
  rcases h with rfl | h
  · simp only [wordSt, if_true, nxt]
    have e : WordPre x (0 + 1) ↔ (smB (bt x 0) || cpB (bt x 0)) = true := by
      rw [Bool.or_eq_true, smB_iff, cpB_iff, ← srt_1, ← srt_2]
      constructor
      · rintro ⟨_, _, _, h, _⟩; exact h
      · intro h; exact ⟨by omega, by omega, by omega, h, fun j a b => by omega⟩
    rw [e]
    simp
  · have hn0 : n ≠ 0 := by have := h.1; omega
    simp only [wordSt, hn0, if_false]
    obtain ⟨h1, h2, h3, h4, h5⟩ := h
    have e : WordPre x (n + 1) ↔ n < 12 ∧ (srt (bt x n) = srt (bt x 0) ∨ srt (bt x n) = 4) := by
      constructor
      · rintro ⟨_, a, _, _, b⟩
        exact ⟨by omega, b n (by omega) (by omega)⟩
      · rintro ⟨a, b⟩
        refine ⟨by omega, by omega, by omega, h4, fun j u v => ?_⟩
        by_cases ej : j = n
        · subst ej; exact b
        · exact h5 j u (by omega)
    rw [e]
    have e2 : ((((bt x n : Nat) : Int) == 126 || (smB (bt x 0) && smB (bt x n))) || (!smB (bt x 0) && cpB (bt x n))) = true ↔ srt (bt x n) = srt (bt x 0) ∨ srt (bt x n) = 4 := by
      simp only [Bool.or_eq_true, Bool.and_eq_true, beq_iff_eq, Bool.not_eq_true', smB_iff, cpB_iff, srt_4]
      rw [show (smB (bt x 0) = false) ↔ ¬ (97 ≤ bt x 0 ∧ bt x 0 ≤ 122) from by rw [← smB_iff]; simp]
      rcases h4 with h4 | h4
      · rw [h4, srt_1]
        rw [srt_1] at h4
        omega
      · rw [h4, srt_2]
        rw [srt_2] at h4
        omega
    have hnx : nxt ⟨2, n, smB (bt x 0), 0⟩ (bt x n) = lts ⟨2, n, smB (bt x 0), 0⟩ (bt x n) := by simp [nxt]
    rw [hnx]
    unfold lts
    simp only
    have h2n : n + 1 ≠ 0 := by omega
    by_cases hc : ((((bt x n : Nat) : Int) == 126 || (smB (bt x 0) && smB (bt x n))) || (!smB (bt x 0) && cpB (bt x n))) = true
    · by_cases h12 : n < 12
      · simp [hc, h12, ← e2, h2n]
      · simp only [h12, decide_false, Bool.and_false, Bool.false_eq_true, if_false, false_and, iff_false, false_implies, and_true]
        split
        · simp
        · split
          · simp
          · simp
    · simp only [← e2, hc, and_false, iff_false, false_implies, and_true]
      rw [Bool.not_eq_true] at hc
      simp only [hc, Bool.false_and, Bool.false_eq_true, if_false]
      split
      · simp
      · split
        · simp
        · simp

/-! dictionaries that may be -/
def GoodDic (D : Dic) : Prop := D.length ≤ 150 ∧ Srt D ∧ ∀ p ∈ D, IsWord p.1 ∧ p.2 ≤ 1000

theorem GoodDic.fits {D : Dic} (h : GoodDic D) : Fits D := fun p hp => by
  obtain ⟨h1, h2⟩ := h.2.2 p hp
  have := h1.2.1
  omega

/-- what both sides' Load must answer. -/
def LoadYes (s : ByteArray) (D : Dic) : Prop := GoodDic D ∧ imageL D = s.toList
def LoadNo (s : ByteArray) : Prop := ∀ D, GoodDic D → imageL D ≠ s.toList

theorem LoadYes.guess {s : ByteArray} {D : Dic} (h : LoadYes s D) : D = guessD s := (guess_image h.1.fits h.2.symm).symm
theorem LoadYes.unique {s : ByteArray} {D D' : Dic} (h : LoadYes s D) (h' : LoadYes s D') : D = D' := h.guess.trans h'.guess.symm

theorem srt_of_rises {D : Dic} (h : ∀ i (h : i + 1 < D.length), wl D[i].1 D[i + 1].1 = true) : Srt D := by
  induction D with
  | nil => exact List.Pairwise.nil
  | cons p D ih =>
    have hD : Srt D := ih fun i hi => by have := h (i + 1) (by simpa using hi); simpa using this
    refine List.pairwise_cons.2 ⟨fun q hq => ?_, hD⟩
    cases D with
    | nil => cases hq
    | cons r D =>
      have h0 : wl p.1 r.1 = true := by have := h 0 (by simp); simpa using this
      rcases List.mem_cons.1 hq with rfl | hq
      · exact h0
      · exact wl_trans h0 ((List.pairwise_cons.1 hD).1 q hq)

theorem rises_of_srt {D : Dic} (h : Srt D) (i : Nat) (hi : i + 1 < D.length) : wl D[i].1 D[i + 1].1 = true := List.pairwise_iff_getElem.1 h i (i + 1) (by omega) hi (by omega)

end Go.Proofs.Ytlfpepehngkehaa
