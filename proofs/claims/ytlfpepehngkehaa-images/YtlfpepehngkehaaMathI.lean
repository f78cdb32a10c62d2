/-
  Plain mathematics: images.
-/
import Derived.Test.YtlfpepehngkehaaMathD
namespace Go.Proofs.Ytlfpepehngkehaa
set_option linter.unusedSimpArgs false
set_option linter.unusedVariables false

def twoL (n : Nat) : List UInt8 := [UInt8.ofNat (n % 256), UInt8.ofNat (n / 256)]

/-- how many bytes two words have in common at their beginning. -/
def lcpL : List UInt8 → List UInt8 → Nat
  | a :: x, b :: y => if a = b then lcpL x y + 1 else 0
  | _, _ => 0

theorem lcpL_le : ∀ x y : List UInt8, lcpL x y ≤ x.length ∧ lcpL x y ≤ y.length
  | [], y => by simp [lcpL]
  | _ :: _, [] => by simp [lcpL]
  | a :: x, b :: y => by
    have := lcpL_le x y
    simp only [lcpL]
    split <;> simp <;> omega

/-- what tells it. -/
def IsLcp (x y : List UInt8) (n : Nat) : Prop := n ≤ x.length ∧ n ≤ y.length ∧ (∀ j, j < n → x[j]? = y[j]?) ∧ (n = x.length ∨ n = y.length ∨ x[n]? ≠ y[n]?)

theorem IsLcp.eq : ∀ {x y : List UInt8} {n : Nat}, IsLcp x y n → n = lcpL x y
  | [], y, n, h => by obtain ⟨h1, _⟩ := h; simp at h1; subst h1; simp [lcpL]
  | a :: x, [], n, h => by obtain ⟨_, h1, _⟩ := h; simp at h1; subst h1; simp [lcpL]
  | a :: x, b :: y, 0, h => by
    obtain ⟨_, _, _, h⟩ := h
    simp only [lcpL]
    rcases h with h | h | h
    · simp at h
    · simp at h
    · simp at h; rw [if_neg h]
  | a :: x, b :: y, n + 1, h => by
    obtain ⟨h1, h2, h3, h4⟩ := h
    have e : a = b := by have := h3 0 (by omega); simpa using this
    simp only [lcpL]
    rw [if_pos e]
    have : IsLcp x y n := ⟨by simpa using h1, by simpa using h2, fun j hj => by have := h3 (j + 1) (by omega); simpa using this, by
      rcases h4 with h | h | h
      · exact .inl (by simpa using h)
      · exact .inr (.inl (by simpa using h))
      · exact .inr (.inr (by simpa using h))⟩
    rw [this.eq]

def prevW (D : Dic) (i : Nat) : List UInt8 := match i with
  | 0 => []
  | j + 1 => (D.getD j (ByteArray.empty, 0)).1.toList

def encE (prev w : List UInt8) (c : Nat) : List UInt8 := [UInt8.ofNat (lcpL prev w), UInt8.ofNat (w.length - lcpL prev w)] ++ w.drop (lcpL prev w) ++ twoL c

def encTo (D : Dic) : Nat → List UInt8
  | 0 => [87, 67] ++ twoL D.length
  | i + 1 => encTo D i ++ encE (prevW D i) (D.getD i (ByteArray.empty, 0)).1.toList (D.getD i (ByteArray.empty, 0)).2

def sumL (l : List UInt8) : UInt8 := l.foldl (fun s b => s - b) 0

def imageL (D : Dic) : List UInt8 := encTo D D.length ++ [sumL (encTo D D.length)]

theorem encE_length (p w : List UInt8) (c : Nat) : (encE p w c).length ≤ w.length + 4 := by
  have := lcpL_le p w
  simp [encE, twoL]

theorem encTo_length {D : Dic} (hw : ∀ p ∈ D, p.1.size ≤ 12) : ∀ i, i ≤ D.length → (encTo D i).length ≤ 4 + i * 16
  | 0, _ => by simp [encTo, twoL]
  | i + 1, h => by
    have h1 := encTo_length hw i (by omega)
    have h2 := encE_length (prevW D i) (D.getD i (ByteArray.empty, 0)).1.toList (D.getD i (ByteArray.empty, 0)).2
    have h3 : (D.getD i (ByteArray.empty, 0)).1.toList.length ≤ 12 := by
      rw [List.getD_eq_getElem?_getD, List.getElem?_eq_getElem (show i < D.length by omega), Option.getD_some, ByteArray.toList_eq]
      exact hw _ (List.getElem_mem (by omega))
    simp only [encTo, List.length_append]
    omega

theorem toList_append (a b : ByteArray) : (a ++ b).toList = a.toList ++ b.toList := by
  rw [ByteArray.toList_eq, ByteArray.toList_eq, ByteArray.toList_eq]
  simp [ByteArray.data_append]

theorem toList_length (a : ByteArray) : a.toList.length = a.size := by rw [ByteArray.toList_eq]; rfl

theorem toList_get (a : ByteArray) (i : Nat) (h : i < a.size) : a.toList[i]? = some a[i] := by
  rw [ByteArray.toList_eq]
  have h' : i < a.data.toList.length := by simpa using h
  rw [List.getElem?_eq_getElem h']
  rfl

end Go.Proofs.Ytlfpepehngkehaa
