/-
  Walks: the keep statements' other way, held against the program's.
-/
import Derived.Test.YtlfpepehngkehaaDoorKeepK
namespace Go.Proofs.YtlfpepehngkehaaDoor
set_option linter.unusedSimpArgs false
set_option linter.unusedVariables false
open Go.RowKit

/-- by the lower number where two lists first differ. -/
def klt : List Nat → List Nat → Bool
  | a :: x, b :: y => decide (a < b) || (decide (a = b) && klt x y)
  | _, _ => false

theorem klt_llt : ∀ {a b : List Nat}, klt a b = true → llt a b = true
  | [], _, h => by simp [klt] at h
  | _ :: _, [], h => by simp [klt] at h
  | x :: a, y :: b, h => by
    simp only [klt, llt, Bool.or_eq_true, Bool.and_eq_true, decide_eq_true_eq] at h ⊢
    rcases h with h | ⟨h1, h2⟩
    · exact .inl h
    · exact .inr ⟨h1, klt_llt h2⟩

theorem klt_drop {a b : List Nat} {i : Nat} (hi : i < a.length) (hj : i < b.length) (e : a[i] = b[i]) : klt (a.drop i) (b.drop i) = klt (a.drop (i + 1)) (b.drop (i + 1)) := by
  rw [List.drop_eq_getElem_cons hi, List.drop_eq_getElem_cons hj]
  simp [klt, e]
theorem klt_ne {a b : List Nat} {i : Nat} (hi : i < a.length) (hj : i < b.length) (e : a[i] ≠ b[i]) : klt (a.drop i) (b.drop i) = decide (a[i] < b[i]) := by
  rw [List.drop_eq_getElem_cons hi, List.drop_eq_getElem_cons hj]
  simp [klt, e]
theorem klt_end {a b : List Nat} {i : Nat} (h : i = a.length ∨ i = b.length) : klt (a.drop i) (b.drop i) = false := by
  rcases h with h | h
  · rw [List.drop_of_length_le (l := a) (by omega)]
    simp [klt]
  · rw [List.drop_of_length_le (l := b) (by omega)]
    cases a.drop i <;> simp [klt]

def LessRel (L1 L2 : List Nat) (r : Bool) (w : World) (x : Value) (wr : World) : Prop := ∃ i : Nat, i ≤ L1.length ∧ i ≤ L2.length ∧ x = .int .i64 i ∧ r = klt (L1.drop i) (L2.drop i) ∧ Same w wr

set_option maxHeartbeats 1000000 in
theorem keepLess_any (w : World) (B1 B2 : Nat) (v1 v2 : Value) (L1 L2 : List Nat) (h1 : w.ownsRow B1 3 1 v1 L1.length (intCells L1)) (h2 : w.ownsRow B2 3 1 v2 L2.length (intCells L2)) (hn1 : L1.length ≤ 1000) (hn2 : L2.length ≤ 1000) :
    Calls Tryd.prog 13 #[v1, v2] w fun e w' => e = .returned (.bool (klt L1 L2)) ∧ Same w w' := by
  obtain ⟨a1, c1, rfl, hg1⟩ := row_form h1
  obtain ⟨a2, c2, rfl, hg2⟩ := row_form h2
  obtain ⟨r, hr⟩ : ∃ r, r = klt L1 L2 := ⟨_, rfl⟩
  rw [← hr]
  have HR : Hid (r = klt L1 L2) := hr
  clear hr
  go_enter Tryd.func13, Tryd.ntmps13
  go_wp2_with fail
  go_loopw [5] (fun x wr => LessRel L1 L2 r w x wr) (fun x _ => L1.length - (intOf x).toNat)
  case atStart => exact ⟨0, by omega, by omega, rfl, HR.out, Same.refl _⟩
  case round =>
    obtain ⟨i, hi1, hi2, rfl, hrr, hsame⟩ := hrel
    have HRR : Hid (r = klt (L1.drop i) (L2.drop i)) := hrr
    clear hrr
    by_cases l1 : i < L1.length
    · have l1' : (i : Int) < (L1.length : Int) := by omega
      by_cases l2 : i < L2.length
      · have l2' : (i : Int) < (L2.length : Int) := by omega
        obtain ⟨g1, rfl⟩ := hg1 (by omega)
        obtain ⟨g2, rfl⟩ := hg2 (by omega)
        have hx := own_int (hsame.row h1) rfl l1
        have hy := own_int (hsame.row h2) rfl l2
        obtain ⟨a, ha⟩ : ∃ a, a = L1[i] := ⟨_, rfl⟩
        obtain ⟨b, hb⟩ : ∃ b, b = L2[i] := ⟨_, rfl⟩
        rw [← ha] at hx
        rw [← hb] at hy
        have HA : Hid (a = L1[i]) := ha
        have HB : Hid (b = L2[i]) := hb
        clear h1 h2 ha hb
        by_cases hab : a = b
        · have hab' : ((a : Int) != (b : Int)) = false := by simp; omega
          have HN : Hid (r = klt (L1.drop (i + 1)) (L2.drop (i + 1))) := by show _ = _; rw [HRR.out]; exact klt_drop l1 l2 (by rw [← HA.out, ← HB.out]; exact hab)
          clear hab
          go_wp2_with fail
          go_quiet (fail)
          go_wp2_with fail
          go_roundw
          case rel => exact ⟨i + 1, by omega, by omega, by go_num, HN.out, Kept.drewN hsame _⟩
          case measure => simp [intOf]; omega
        · have hab' : ((a : Int) != (b : Int)) = true := by simp; omega
          have HN : Hid (r = decide ((a : Int) < (b : Int))) := by
            show _ = _
            rw [HRR.out, klt_ne l1 l2 (by rw [← HA.out, ← HB.out]; exact hab), ← HA.out, ← HB.out, decide_eq_decide]
            omega
          clear hab
          by_cases hl : (a : Int) < (b : Int)
          all_goals
            go_wp2_with fail
            go_quiet (fail)
            go_wp2_with fail
            go_quiet (fail)
            go_wp2_with fail
            go_ret
            exact ⟨by rw [HN.out]; simp [hl], Kept.drewN (Kept.drewN hsame _) _⟩
      · have l2' : ¬ (i : Int) < (L2.length : Int) := by omega
        have hr : r = false := by rw [HRR.out]; exact klt_end (.inr (by omega))
        subst hr
        clear h1 h2
        go_wp2_with fail
        go_ret
        exact ⟨rfl, hsame⟩
    · have l1' : ¬ (i : Int) < (L1.length : Int) := by omega
      have hr : r = false := by rw [HRR.out]; exact klt_end (.inl (by omega))
      subst hr
      clear h1 h2
      go_wp2_with fail
      go_ret
      exact ⟨rfl, hsame⟩

/-! another way -/
def StepT (T : Tab) (t : ByteArray) (q p : Nat) : Prop := TStands T t q p ∨ AfterIs t q p
inductive TW (T : Tab) (t : ByteArray) : Nat → List Nat → Prop
  | zero : TW T t 0 [0]
  | snoc {q p : Nat} {l : List Nat} : TW T t q l → q < t.size → StepT T t q p → TW T t p (l ++ [p])

theorem StepT.lt {T : Tab} {t : ByteArray} {q p : Nat} (h : StepT T t q p) : q < p ∧ p ≤ t.size ∧ Edge t p := by
  rcases h with h | h
  · exact ⟨h.2.1, h.1, h.2.2.2.1⟩
  · exact ⟨h.1, h.2.1, h.2.2.1⟩

theorem TW.facts {T : Tab} {t : ByteArray} {q : Nat} {l : List Nat} (h : TW T t q l) : Bounds l q ∧ l.length ≤ q + 1 ∧ Edge t q ∧ q ≤ t.size := by
  induction h with
  | zero => exact ⟨⟨by simp, by simp, by simp, fun x hx => by simp at hx; omega⟩, by simp, edge_zero t, Nat.zero_le _⟩
  | snoc h1 h2 h3 ih =>
    obtain ⟨a1, a2, a3, a4⟩ := ih
    obtain ⟨b1, b2, b3⟩ := h3.lt
    refine ⟨⟨?_, List.mem_append_left _ a1.zero, by simp, fun x hx => ?_⟩, by simp; omega, b3, b2⟩
    · rw [List.pairwise_append]
      exact ⟨a1.srt, by simp, fun x hx y hy => by simp at hy; have := a1.le x hx; omega⟩
    · rcases List.mem_append.1 hx with hx | hx
      · have := a1.le x hx; omega
      · simp at hx; omega

def WayRel (T : Tab) (t : ByteArray) (w : World) (g : Nat) (lv x y : Value) (wr : World) : Prop :=
  ∃ (q k : Nat) (l : List Nat), g = t.size - q ∧ q ≤ t.size ∧ k ≤ q ∧ x = .int .i64 q ∧ y = .int .i64 k ∧ TW T t q l ∧ wr.ownsRow w.heap.size 3 1 lv l.length (intCells l) ∧ Below w.heap.size w wr

def WayIn (T : Tab) (t : ByteArray) (w : World) (q : Nat) (l : List Nat) (lv : Value) (g : Nat) (tv y : Value) (wr : World) : Prop :=
  ∃ (j : Nat) (L : List Nat), g = q + 6 - j ∧ q < j ∧ j ≤ q + 6 ∧ y = .int .i64 j ∧ (∀ p ∈ L, TStands T t q p) ∧ L.length + q + 1 ≤ j ∧ wr.ownsRow w.heap.size 3 1 tv L.length (intCells L) ∧
    wr.ownsRow w.heap.size 3 1 lv l.length (intCells l) ∧ Apart lv tv ∧ Below w.heap.size w wr

theorem own_oneK (w : World) (x : Value) (t : TypeId) : (w.alloc (.cells #[x] t)).ownsRow w.heap.size t 1 (.slice (some ⟨w.heap.size, 0, none⟩) 1 1) 1 [x] := by
  refine ⟨rfl, .inr ⟨w.heap.size, 1, #[x], rfl, Nat.le_refl _, ?_, Nat.le_refl _, by unfold maxLen; omega, rfl, rfl⟩⟩
  show (w.heap.push _)[w.heap.size]? = _
  simp

theorem apart_grow {lv tv tv' : Value} {m : Nat} {w : World} {base n : Nat} {t : TypeId} {xs : List Value} (h : Apart lv tv) (hl : w.ownsRow base t 1 lv n xs) (hg : ∀ k, tv'.ownBlock = some k → tv.ownBlock = some k ∨ w.heap.size ≤ k) : Apart lv tv' := fun k e e2 => by
  rcases hg k e2 with m | m
  · exact h k e m
  · have := (hl.lt k e).2; omega

end Go.Proofs.YtlfpepehngkehaaDoor
