/-
  Walks: one entry.
-/
import Derived.Test.YtlfpepehngkehabDoorLeafA
namespace Go.Proofs.YtlfpepehngkehabDoor
set_option linter.unusedSimpArgs false
set_option linter.unusedVariables false
open Go.RowKit

theorem digitsEnd_at (s : ByteArray) (a : Int) (k : Nat) (ha : a = k) (w : World) (hs : s.size ≤ maxLen) (hk : k ≤ s.size) (hb : s.size ≤ 2000) :
    Calls Tryd.prog 63 #[.string s, .int .i64 a] w fun e w' => ∃ n : Nat, e = .returned (.int .i64 ((k + n : Nat) : Int)) ∧ DigitsAt s k n ∧ w' = w := by
  subst ha; exact digitsEnd_any s k w hs hk hb

def entV (x : Ent) : Value := .agg #[.string x.word, .bool x.inn, .int .i64 x.cost, .int .i64 x.dig]

def EntryRes (s : ByteArray) (k : Nat) (e : Ending) : Prop :=
  (∃ p : Nat, e = .returned (.tuple #[entV ⟨ByteArray.empty, false, 0, 0⟩, .int .i64 p, .bool false]) ∧ BadEntry s k p) ∨
  (∃ (x : Ent) (p : Nat), e = .returned (.tuple #[entV x, .int .i64 p, .bool true]) ∧ GoodEntry s k x p)

set_option maxHeartbeats 1000000 in
theorem readEntry_any (s : ByteArray) (k : Nat) (w : World) (hs : s.size ≤ maxLen) (hk : k ≤ s.size) (hb : s.size ≤ 2000) :
    Calls Tryd.prog 54 #[.string s, .int .i64 k] w fun e w' => EntryRes s k e ∧ Below w.heap.size w w' := by
  have hs' := hs
  unfold maxLen at hs
  go_enter Tryd.func54, Tryd.ntmps54
  go_wp2_with fail
  refine (wordEnd_any s k _ hs' hk hb).mono ?_
  rintro e w1 ⟨n, rfl, hW, rfl⟩
  have HW : Hid (WordAt s k n) := hW
  have hle := hW.le
  obtain ⟨hn12, hle⟩ := hle
  clear hW
  by_cases h0 : n = 0
  · subst h0
    go_wp2
    refine bodyPost_ret (v := .tuple #[.agg #[.string ByteArray.empty, .bool false, .int .i64 0, .int .i64 0], .int .i64 k, .bool false]) (by simp [results, Tryd.results54, go_sem]; rfl) rfl ⟨.inl ⟨k, rfl, 0, HW.out, .inl ⟨.inl rfl, rfl⟩⟩, ?_⟩
    exact (Below.refl _ _).alloc (Nat.le_refl _) _
  · have hkn := hle (by omega)
    have hne : ((k : Int) + n == k) = false := beq_eq_false_iff_ne.2 (by omega)
    by_cases he : k + n = s.size
    · have HE : Hid (k + n = s.size) := he
      have hge : (s.size : Int) ≤ (k : Int) + n := by omega
      clear he
      go_wp2
      refine bodyPost_ret (v := .tuple #[.agg #[.string ByteArray.empty, .bool false, .int .i64 0, .int .i64 0], .int .i64 ((k + n : Nat) : Int), .bool false]) (by simp [results, Tryd.results54, go_sem]; rfl) rfl ⟨.inl ⟨k + n, rfl, n, HW.out, .inl ⟨.inr HE.out, rfl⟩⟩, ?_⟩
      exact (Below.refl _ _).alloc (Nat.le_refl _) _
    · have hlt : k + n < s.size := by omega
      have hbt := bt_get s (k + n) hlt
      have hb2 := bt_lt s (k + n)
      clear he
      by_cases h33 : bt s (k + n) = 33
      · have H33 : Hid (bt s (k + n) = 33) := h33
        have t33 : ((bt s (k + n) : Int) == 33) = true := beq_iff_eq.2 (by omega)
        clear h33
        go_wp2
        refine bodyPost_ret (v := .tuple #[.agg #[.string (s.extract k (k + n)), .bool false, .int .i64 0, .int .i64 0], .int .i64 ((k + n + 1 : Nat) : Int), .bool true]) (by simp [results, Tryd.results54, go_sem]) rfl ⟨.inr ⟨⟨s.extract k (k + n), false, 0, 0⟩, k + n + 1, rfl, n, HW.out, by omega, hlt, rfl, .inl ⟨H33.out, rfl, rfl, rfl, rfl⟩⟩, ?_⟩
        exact (Below.refl _ _).alloc (Nat.le_refl _) _
      · have t33 : ((bt s (k + n) : Int) == 33) = false := beq_eq_false_iff_ne.2 (by omega)
        by_cases h61 : bt s (k + n) = 61
        · have H61 : Hid (bt s (k + n) = 61) := h61
          have t61 : ((bt s (k + n) : Int) != 61) = false := srt_cast_eq (by omega)
          clear h33 h61
          go_wp2_with fail
          refine (digitsEnd_at s _ (k + n + 1) (by omega) _ hs' (by omega) hb).mono ?_
          rintro e w1 ⟨m, rfl, hD, rfl⟩
          have HD : Hid (DigitsAt s (k + n + 1) m) := hD
          obtain ⟨hm4, hms⟩ := hD.le
          clear hD
          by_cases hm0 : m = 0
          · subst hm0
            go_wp2
            refine bodyPost_ret (v := .tuple #[.agg #[.string ByteArray.empty, .bool false, .int .i64 0, .int .i64 0], .int .i64 ((k + n + 1 : Nat) : Int), .bool false]) (by simp [results, Tryd.results54, go_sem]; rfl) rfl ⟨.inl ⟨k + n + 1, rfl, n, HW.out, .inr (.inr ⟨by omega, hlt, H61.out, HD.out, rfl⟩)⟩, ?_⟩
            exact (Below.refl _ _).alloc (Nat.le_refl _) _
          · have hme : ((k : Int) + n + 1 + m == (k : Int) + n + 1) = false := beq_eq_false_iff_ne.2 (by omega)
            go_wp2_with fail
            refine (number_any _ _ ?_ ?_).mono ?_
            · simp; omega
            · intro j hj
              simp at hj
              rw [bt_extract _ _ _ _ (by omega) (by omega)]
              exact HD.out.2.2.1 _ (by omega) (by omega)
            rintro e w1 ⟨rfl, rfl⟩
            have hz : (s.extract (k + n + 1) (k + n + 1 + m)).size = m := by simp; omega
            rw [hz, num_extract _ _ _ _ (by omega) (by omega)]
            have h9 := num_4 s (k + n + 1) m hm4 HD.out.2.2.1
            clear hz
            go_wp2
            refine bodyPost_ret (v := .tuple #[.agg #[.string (s.extract k (k + n)), .bool true, .int .i64 (num s (k + n + 1) m), .int .i64 ((k + n + 1 : Nat) : Int)], .int .i64 ((k + n + 1 + m : Nat) : Int), .bool true]) (by simp [results, Tryd.results54, go_sem]) rfl ⟨.inr ⟨⟨s.extract k (k + n), true, num s (k + n + 1) m, k + n + 1⟩, k + n + 1 + m, rfl, n, HW.out, by omega, hlt, rfl, .inr ⟨H61.out, m, by omega, HD.out, rfl, rfl, rfl, rfl⟩⟩, ?_⟩
            exact (Below.refl _ _).alloc (Nat.le_refl _) _
        · have H33 : Hid (bt s (k + n) ≠ 33 ∧ bt s (k + n) ≠ 61) := ⟨h33, h61⟩
          have t61 : ((bt s (k + n) : Int) != 61) = true := srt_cast_ne (by omega)
          clear h33 h61
          go_wp2
          refine bodyPost_ret (v := .tuple #[.agg #[.string ByteArray.empty, .bool false, .int .i64 0, .int .i64 0], .int .i64 ((k + n : Nat) : Int), .bool false]) (by simp [results, Tryd.results54, go_sem]; rfl) rfl ⟨.inl ⟨k + n, rfl, n, HW.out, .inr (.inl ⟨by omega, hlt, H33.out.1, H33.out.2, rfl⟩)⟩, ?_⟩
          exact (Below.refl _ _).alloc (Nat.le_refl _) _

end Go.Proofs.YtlfpepehngkehabDoor
