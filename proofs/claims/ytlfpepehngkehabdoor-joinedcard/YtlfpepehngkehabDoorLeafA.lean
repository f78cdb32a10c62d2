/-
  Walks: the leaves: sorts of bytes, how far words and digits reach, the number that digits write.
-/
import Derived.Test.YtlfpepehngkehabDoorLeafP
import Derived.WalkKit
import Derived.WalkSpells
import Derived.WalkLawsBesides
namespace Go.Proofs.YtlfpepehngkehabDoor
set_option linter.unusedSimpArgs false
set_option linter.unusedVariables false
open Go.RowKit

set_option maxHeartbeats 400000 in
theorem of_any (n : Nat) (w : World) (h1 : n < 256) :
    Calls Tryd.prog 50 #[.int .u8 n] w fun e w' => e = .returned (.int .i64 (srt n)) ∧ w' = w := by
  go_enter Tryd.func50, Tryd.ntmps50
  go_wp2
  all_goals
    go_ret
    refine ⟨ret_int ?_, rfl⟩
    simp only [srt]
    repeat (split <;> try (first | omega | (simp only [beq_iff_eq, beq_eq_false_iff_ne, ne_eq] at *; omega)))

set_option maxHeartbeats 1000000 in
theorem digitsEnd_any (s : ByteArray) (k : Nat) (w : World) (hs : s.size ≤ maxLen) (hk : k ≤ s.size) (hb : s.size ≤ 2000) :
    Calls Tryd.prog 63 #[.string s, .int .i64 k] w fun e w' => ∃ n : Nat, e = .returned (.int .i64 ((k + n : Nat) : Int)) ∧ DigitsAt s k n ∧ w' = w := by
  unfold maxLen at hs
  go_enter Tryd.func63, Tryd.ntmps63
  go_wp2
  go_loop [5] (fun i => ∃ n : Nat, n ≤ 4 ∧ k + n ≤ s.size ∧ (∀ j, k ≤ j → j < k + n → srt (bt s j) = 3) ∧ i = .int .i64 ((k + n : Nat) : Int)) (fun i => s.size - (intOf i).toNat)
  case atStart => exact ⟨0, by omega, by omega, fun j a b => by omega, by simp⟩
  case round =>
    obtain ⟨n, hn, hkn, hall, rfl⟩ := hrel
    have HA : Hid (∀ j, k ≤ j → j < k + n → srt (bt s j) = 3) := hall
    clear hall
    by_cases hlt : k + n < s.size
    · by_cases h4 : n < 4
      · have hbt := bt_get s (k + n) hlt
        have hb2 := bt_lt s (k + n)
        by_cases h3 : srt (bt s (k + n)) = 3
        · have H3 : Hid (srt (bt s (k + n)) = 3) := h3
          have ht := srt_cast_eq (a := srt (bt s (k + n))) (b := 3) (by omega)
          clear h3
          go_wp2_with (go_at_call 50; refine (of_any _ _ hb2).mono ?_; rintro e w' ⟨rfl, rfl⟩)
          go_round
          case rel =>
            refine ⟨n + 1, by omega, by omega, fun j a b => ?_, by go_num⟩
            by_cases e : j = k + n
            · rw [e]; exact H3.out
            · exact HA.out j a (by omega)
          case measure => simp [intOf]; omega
        · have H3 : Hid (¬ srt (bt s (k + n)) = 3) := h3
          have ht := srt_cast_ne (a := srt (bt s (k + n))) (b := 3) (by omega)
          clear h3
          go_wp2_with (go_at_call 50; refine (of_any _ _ hb2).mono ?_; rintro e w' ⟨rfl, rfl⟩)
          go_ret
          exact ⟨n, ret_int (by omega), ⟨hn, hkn, HA.out, .inr (.inr H3.out)⟩, rfl⟩
      · go_wp2
        go_ret
        exact ⟨n, ret_int (by omega), ⟨hn, hkn, HA.out, .inr (.inl (by omega))⟩, rfl⟩
    · go_wp2
      go_ret
      exact ⟨n, ret_int (by omega), ⟨hn, hkn, HA.out, .inl (by omega)⟩, rfl⟩

set_option maxHeartbeats 1000000 in
theorem number_any (s : ByteArray) (w : World) (hs : s.size ≤ 4) (hd : ∀ j, j < s.size → srt (bt s j) = 3) :
    Calls Tryd.prog 64 #[.string s] w fun e w' => e = .returned (.int .i64 (num s 0 s.size)) ∧ w' = w := by
  have HD : Hid (∀ j, j < s.size → srt (bt s j) = 3) := hd
  clear hd
  go_enter Tryd.func64, Tryd.ntmps64
  go_wp2
  go_loop [3, 4] (fun m i => ∃ k : Nat, k ≤ s.size ∧ i = .int .i64 k ∧ m = .int .i64 (num s 0 k)) (fun _ i => s.size - (intOf i).toNat)
  case atStart => exact ⟨0, by omega, rfl, rfl⟩
  case round =>
    obtain ⟨k, hk, rfl, rfl⟩ := hrel
    by_cases hlt : k < s.size
    · have hbt := bt_get s k hlt
      have h3 := srt_3.1 (HD.out k hlt)
      have hn := num_4 s 0 k (by omega) (fun j a b => HD.out j (by omega))
      have HN : Hid (num s 0 (k + 1) = 10 * num s 0 k + (bt s k - 48)) := by show _ = _; rw [num, Nat.zero_add]
      obtain ⟨h31, h32⟩ := h3
      go_wp2
      go_round
      case rel => exact ⟨k + 1, by omega, by go_num, by rw [HN.out]; go_num⟩
      case measure => simp [intOf]; omega
    · go_wp2
      go_ret
      have : k = s.size := by omega
      subst this
      exact ⟨rfl, rfl⟩

theorem word_more (s : ByteArray) (k n : Nat) (h : ∀ j, k < j → j < k + n → srt (bt s j) = srt (bt s k) ∨ srt (bt s j) = 4) (h' : srt (bt s (k + n)) = srt (bt s k) ∨ srt (bt s (k + n)) = 4) :
    ∀ j, k < j → j < k + (n + 1) → srt (bt s j) = srt (bt s k) ∨ srt (bt s j) = 4 := by
  intro j a b
  by_cases e : j = k + n
  · rw [e]; exact h'
  · exact h j a (by omega)

set_option maxHeartbeats 2000000 in
theorem wordEnd_any (s : ByteArray) (k : Nat) (w : World) (hs : s.size ≤ maxLen) (hk : k ≤ s.size) (hb : s.size ≤ 2000) :
    Calls Tryd.prog 62 #[.string s, .int .i64 k] w fun e w' => ∃ n : Nat, e = .returned (.int .i64 ((k + n : Nat) : Int)) ∧ WordAt s k n ∧ w' = w := by
  unfold maxLen at hs
  have hk0 : ¬ (k : Int) < 0 := by omega
  by_cases hks : k < s.size
  · have hbt := bt_get s k hks
    have hb2 := bt_lt s k
    by_cases hl : srt (bt s k) = 1 ∨ srt (bt s k) = 2
    · have HL : Hid (srt (bt s k) = 1 ∨ srt (bt s k) = 2) := hl
      rcases hl with h | h
      · have t1 := srt_cast_eq (a := srt (bt s k)) (b := 1) (by omega)
        clear h
        go_enter Tryd.func62, Tryd.ntmps62
        go_wp2_with (go_at_call 50; refine (of_any _ _ hb2).mono ?_; rintro e w' ⟨rfl, rfl⟩)
        go_loop [6] (fun i => ∃ n : Nat, 1 ≤ n ∧ n ≤ 12 ∧ k + n ≤ s.size ∧ (∀ j, k < j → j < k + n → srt (bt s j) = srt (bt s k) ∨ srt (bt s j) = 4) ∧ i = .int .i64 ((k + n : Nat) : Int)) (fun i => s.size - (intOf i).toNat)
        case atStart => exact ⟨1, by omega, by omega, by omega, fun j a b => by omega, by go_num⟩
        case round =>
          obtain ⟨n, hn1, hn, hkn, hall, rfl⟩ := hrel
          have HA : Hid (∀ j, k < j → j < k + n → srt (bt s j) = srt (bt s k) ∨ srt (bt s j) = 4) := hall
          clear hall
          by_cases hlt : k + n < s.size
          · by_cases h4 : n < 12
            · have hbn := bt_get s (k + n) hlt
              have hb3 := bt_lt s (k + n)
              by_cases h3 : srt (bt s (k + n)) = srt (bt s k)
              · have H3 : Hid (srt (bt s (k + n)) = srt (bt s k)) := h3
                have ht := srt_cast_eq (a := srt (bt s (k + n))) (b := srt (bt s k)) (by omega)
                clear h3
                go_wp2_with (go_at_call 50; refine (of_any _ _ hb3).mono ?_; rintro e w' ⟨rfl, rfl⟩)
                go_round
                case rel => exact ⟨n + 1, by omega, by omega, by omega, word_more s k n HA.out (.inl H3.out), by go_num⟩
                case measure => simp [intOf]; omega
              · have ht := srt_cast_ne (a := srt (bt s (k + n))) (b := srt (bt s k)) (by omega)
                by_cases h5 : srt (bt s (k + n)) = 4
                · have H5 : Hid (srt (bt s (k + n)) = 4) := h5
                  have ht5 := srt_cast_eq (a := srt (bt s (k + n))) (b := 4) (by omega)
                  clear h3 h5
                  go_wp2_with (go_at_call 50; refine (of_any _ _ hb3).mono ?_; rintro e w' ⟨rfl, rfl⟩)
                  go_round
                  case rel => exact ⟨n + 1, by omega, by omega, by omega, word_more s k n HA.out (.inr H5.out), by go_num⟩
                  case measure => simp [intOf]; omega
                · have ht5 := srt_cast_ne (a := srt (bt s (k + n))) (b := 4) (by omega)
                  have H5 : Hid (srt (bt s (k + n)) ≠ srt (bt s k) ∧ srt (bt s (k + n)) ≠ 4) := ⟨h3, h5⟩
                  clear h3 h5
                  go_wp2_with (go_at_call 50; refine (of_any _ _ hb3).mono ?_; rintro e w' ⟨rfl, rfl⟩)
                  go_ret
                  exact ⟨n, ret_int (by omega), .inr ⟨hn1, hn, hkn, HL.out, HA.out, .inr (.inr H5.out)⟩, rfl⟩
            · go_wp2
              go_ret
              exact ⟨n, ret_int (by omega), .inr ⟨hn1, hn, hkn, HL.out, HA.out, .inr (.inl (by omega))⟩, rfl⟩
          · go_wp2
            go_ret
            exact ⟨n, ret_int (by omega), .inr ⟨hn1, hn, hkn, HL.out, HA.out, .inl (by omega)⟩, rfl⟩
      · have t1 := srt_cast_ne (a := srt (bt s k)) (b := 1) (by omega)
        have t2 := srt_cast_eq (a := srt (bt s k)) (b := 2) (by omega)
        clear h
        go_enter Tryd.func62, Tryd.ntmps62
        go_wp2_with (go_at_call 50; refine (of_any _ _ hb2).mono ?_; rintro e w' ⟨rfl, rfl⟩)
        go_loop [6] (fun i => ∃ n : Nat, 1 ≤ n ∧ n ≤ 12 ∧ k + n ≤ s.size ∧ (∀ j, k < j → j < k + n → srt (bt s j) = srt (bt s k) ∨ srt (bt s j) = 4) ∧ i = .int .i64 ((k + n : Nat) : Int)) (fun i => s.size - (intOf i).toNat)
        case atStart => exact ⟨1, by omega, by omega, by omega, fun j a b => by omega, by go_num⟩
        case round =>
          obtain ⟨n, hn1, hn, hkn, hall, rfl⟩ := hrel
          have HA : Hid (∀ j, k < j → j < k + n → srt (bt s j) = srt (bt s k) ∨ srt (bt s j) = 4) := hall
          clear hall
          by_cases hlt : k + n < s.size
          · by_cases h4 : n < 12
            · have hbn := bt_get s (k + n) hlt
              have hb3 := bt_lt s (k + n)
              by_cases h3 : srt (bt s (k + n)) = srt (bt s k)
              · have H3 : Hid (srt (bt s (k + n)) = srt (bt s k)) := h3
                have ht := srt_cast_eq (a := srt (bt s (k + n))) (b := srt (bt s k)) (by omega)
                clear h3
                go_wp2_with (go_at_call 50; refine (of_any _ _ hb3).mono ?_; rintro e w' ⟨rfl, rfl⟩)
                go_round
                case rel => exact ⟨n + 1, by omega, by omega, by omega, word_more s k n HA.out (.inl H3.out), by go_num⟩
                case measure => simp [intOf]; omega
              · have ht := srt_cast_ne (a := srt (bt s (k + n))) (b := srt (bt s k)) (by omega)
                by_cases h5 : srt (bt s (k + n)) = 4
                · have H5 : Hid (srt (bt s (k + n)) = 4) := h5
                  have ht5 := srt_cast_eq (a := srt (bt s (k + n))) (b := 4) (by omega)
                  clear h3 h5
                  go_wp2_with (go_at_call 50; refine (of_any _ _ hb3).mono ?_; rintro e w' ⟨rfl, rfl⟩)
                  go_round
                  case rel => exact ⟨n + 1, by omega, by omega, by omega, word_more s k n HA.out (.inr H5.out), by go_num⟩
                  case measure => simp [intOf]; omega
                · have ht5 := srt_cast_ne (a := srt (bt s (k + n))) (b := 4) (by omega)
                  have H5 : Hid (srt (bt s (k + n)) ≠ srt (bt s k) ∧ srt (bt s (k + n)) ≠ 4) := ⟨h3, h5⟩
                  clear h3 h5
                  go_wp2_with (go_at_call 50; refine (of_any _ _ hb3).mono ?_; rintro e w' ⟨rfl, rfl⟩)
                  go_ret
                  exact ⟨n, ret_int (by omega), .inr ⟨hn1, hn, hkn, HL.out, HA.out, .inr (.inr H5.out)⟩, rfl⟩
            · go_wp2
              go_ret
              exact ⟨n, ret_int (by omega), .inr ⟨hn1, hn, hkn, HL.out, HA.out, .inr (.inl (by omega))⟩, rfl⟩
          · go_wp2
            go_ret
            exact ⟨n, ret_int (by omega), .inr ⟨hn1, hn, hkn, HL.out, HA.out, .inl (by omega)⟩, rfl⟩
    · have HL : Hid (¬ (srt (bt s k) = 1 ∨ srt (bt s k) = 2)) := hl
      have t1 := srt_cast_ne (a := srt (bt s k)) (b := 1) (by omega)
      have t2 := srt_cast_ne (a := srt (bt s k)) (b := 2) (by omega)
      clear hl
      go_enter Tryd.func62, Tryd.ntmps62
      go_wp2_with (go_at_call 50; refine (of_any _ _ hb2).mono ?_; rintro e w' ⟨rfl, rfl⟩)
      go_ret
      exact ⟨0, ret_int (by omega), .inl ⟨rfl, .inr (by have := HL.out; omega)⟩, rfl⟩
  · go_enter Tryd.func62, Tryd.ntmps62
    go_wp2
    go_ret
    exact ⟨0, ret_int (by omega), .inl ⟨rfl, .inl (by omega)⟩, rfl⟩

end Go.Proofs.YtlfpepehngkehabDoor
