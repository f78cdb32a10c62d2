/-
  Plain mathematics: the program's writing of an image.
-/
import Derived.Test.YtlfpepehngkehaaMathK
namespace Go.Proofs.Ytlfpepehngkehaa
set_option linter.unusedSimpArgs false
set_option linter.unusedVariables false

/-- the sum of some bytes. -/
def totL : List UInt8 → Nat
  | [] => 0
  | b :: l => b.toNat + totL l

theorem totL_append (a b : List UInt8) : totL (a ++ b) = totL a + totL b := by
  induction a with
  | nil => simp [totL]
  | cons x a ih => simp only [List.cons_append, totL, ih]; omega

theorem totL_le (l : List UInt8) : totL l ≤ 255 * l.length := by
  induction l with
  | nil => simp [totL]
  | cons x l ih => have := x.toNat_lt; simp only [totL, List.length_cons]; omega

theorem totL_take (l : List UInt8) (i : Nat) (h : i < l.length) : totL (l.take (i + 1)) = totL (l.take i) + l[i].toNat := by
  rw [List.take_succ_eq_append_getElem h, totL_append]; simp [totL]

theorem sumY_go : ∀ (l : List UInt8) (s : UInt8), (l.foldl (fun s b => s - b) s).toNat = (s.toNat + (256 - totL l % 256)) % 256
  | [], s => by have := s.toNat_lt; simp [totL]
  | b :: l, s => by
    have hb := b.toNat_lt
    have hs := s.toNat_lt
    rw [List.foldl_cons, sumY_go l (s - b), UInt8.toNat_sub]
    simp only [totL]
    omega

theorem sumL_tot (l : List UInt8) : sumL l = UInt8.ofNat ((256 - totL l % 256) % 256) := by
  apply UInt8.toNat_inj.1
  unfold sumL
  rw [sumY_go l 0]
  simp

theorem twoL_parts (n : Nat) : twoL n = [UInt8.ofNat (n % 256)] ++ [UInt8.ofNat (n / 256)] := rfl

theorem encE_parts (p w : List UInt8) (c : Nat) : encE p w c = [UInt8.ofNat (lcpL p w)] ++ ([UInt8.ofNat (w.length - lcpL p w)] ++ (w.drop (lcpL p w) ++ twoL c)) := by simp [encE]

theorem prevW_next {D : Dic} {i : Nat} (h : i < D.length) : prevW D (i + 1) = D[i].1.toList := by
  simp only [prevW]; rw [List.getD_eq_getElem?_getD, List.getElem?_eq_getElem h, Option.getD_some]

theorem encTo_next {D : Dic} {i : Nat} (h : i < D.length) : encTo D (i + 1) = encTo D i ++ encE (prevW D i) D[i].1.toList D[i].2 := by
  simp only [encTo]; rw [List.getD_eq_getElem?_getD, List.getElem?_eq_getElem h, Option.getD_some]

/-- two texts as they are compared: how far they agree. -/
def Agree (x y : ByteArray) (n : Nat) : Prop := n ≤ x.size ∧ n ≤ y.size ∧ ∀ j, j < n → bt x j = bt y j

theorem agree_next {x y : ByteArray} {n : Nat} (h : Agree x y n) (hx : n < x.size) (hy : n < y.size) (e : bt x n = bt y n) : Agree x y (n + 1) :=
  ⟨hx, hy, fun j hj => by
    by_cases ej : j = n
    · rw [ej]; exact e
    · exact h.2.2 j (by omega)⟩

theorem bt_someY (s : ByteArray) (i : Nat) (h : i < s.size) : s.toList[i]? = some (UInt8.ofNat (bt s i)) := by
  rw [toList_get s i h, ← bt_get s i h]; simp

theorem bt_injY {s t : ByteArray} {i : Nat} (hs : i < s.size) (ht : i < t.size) : s.toList[i]? = t.toList[i]? ↔ bt s i = bt t i := by
  rw [bt_someY s i hs, bt_someY t i ht]
  have a := bt_lt s i
  have b := bt_lt t i
  constructor
  · intro e
    have e' := congrArg UInt8.toNat (Option.some.inj e)
    rw [u8_of a, u8_of b] at e'
    exact e'
  · intro e; rw [e]

theorem agree_lcp {x y : ByteArray} {n : Nat} (h : Agree x y n) (hs : n = x.size ∨ n = y.size ∨ bt x n ≠ bt y n) : n = lcpL x.toList y.toList := by
  obtain ⟨h1, h2, h3⟩ := h
  apply IsLcp.eq
  rw [IsLcp, toList_length, toList_length]
  refine ⟨h1, h2, fun j hj => (bt_injY (by omega) (by omega)).2 (h3 j hj), ?_⟩
  by_cases e1 : n = x.size
  · exact .inl e1
  · by_cases e2 : n = y.size
    · exact .inr (.inl e2)
    · refine .inr (.inr fun e => ?_)
      rcases hs with a | a | a
      · exact e1 a
      · exact e2 a
      · exact a ((bt_injY (by omega) (by omega)).1 e)

end Go.Proofs.Ytlfpepehngkehaa
