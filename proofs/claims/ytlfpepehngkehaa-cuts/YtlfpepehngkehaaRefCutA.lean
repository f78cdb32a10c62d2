/-
  Walks: the reference's leaves of cutting.
-/
import Derived.Test.YtlfpepehngkehaaFormA
import Derived.Test.YtlfpepehngkehaaBookW
import Derived.Test.YtlfpepehngkehaaMaths
import Derived.BigQuiet
import Derived.Deep.QuietTactic
namespace Go.Proofs.Ytlfpepehngkehaa
set_option linter.unusedSimpArgs false
set_option linter.unusedVariables false
open Go.RowKit

theorem smB_s {c : Nat} : smB c = true ↔ sortC c = 115 := by rw [sortC_s]; exact smB_iff
theorem cpB_c {c : Nat} : cpB c = true ↔ sortC c = 99 := by rw [sortC_c]; exact cpB_iff

set_option maxHeartbeats 1000000 in
theorem sort_any (c : Nat) (w : World) (hc : c < 256) :
    Calls Try.prog 70 #[.int .u8 c] w fun e w' => e = .returned (.int .u8 (sortC c)) ∧ w' = w := by
  obtain ⟨r, hr⟩ : ∃ r, r = sortC c := ⟨_, rfl⟩
  rw [← hr]
  have HR : Hid (r = sortC c) := hr
  clear hr
  cases h1 : smB c
  · cases h2 : cpB c
    · cases h3 : dgB c
      · by_cases h4 : c = 32
        · subst h4
          have : r = 98 := HR.out
          subst this
          go_enter Try.func70, Try.ntmps70
          go_wp2_with (first | (go_at_call 86; refine (smallB _ _ hc).mono ?_; rintro e w' ⟨rfl, rfl⟩) | (go_at_call 87; refine (capitalB _ _ hc).mono ?_; rintro e w' ⟨rfl, rfl⟩) | (go_at_call 89; refine (digitB _ _ hc).mono ?_; rintro e w' ⟨rfl, rfl⟩))
          go_ret
          exact ⟨rfl, rfl⟩
        · have h4' : ((c : Int) == 32) = false := by simp; omega
          have : r = 111 := by
            rw [HR.out]
            have a1 : ¬ (97 ≤ c ∧ c ≤ 122) := fun h => by rw [smB_iff.2 h] at h1; cases h1
            have a2 : ¬ (65 ≤ c ∧ c ≤ 90) := fun h => by rw [cpB_iff.2 h] at h2; cases h2
            have a3 : ¬ (48 ≤ c ∧ c ≤ 57) := fun h => by rw [dgB_iff.2 h] at h3; cases h3
            simp [sortC, a1, a2, a3, h4]
          subst this
          go_enter Try.func70, Try.ntmps70
          go_wp2_with (first | (go_at_call 86; refine (smallB _ _ hc).mono ?_; rintro e w' ⟨rfl, rfl⟩) | (go_at_call 87; refine (capitalB _ _ hc).mono ?_; rintro e w' ⟨rfl, rfl⟩) | (go_at_call 89; refine (digitB _ _ hc).mono ?_; rintro e w' ⟨rfl, rfl⟩))
          go_ret
          exact ⟨rfl, rfl⟩
      · have : r = 100 := by rw [HR.out, sortC_d]; exact dgB_iff.1 h3
        subst this
        go_enter Try.func70, Try.ntmps70
        go_wp2_with (first | (go_at_call 86; refine (smallB _ _ hc).mono ?_; rintro e w' ⟨rfl, rfl⟩) | (go_at_call 87; refine (capitalB _ _ hc).mono ?_; rintro e w' ⟨rfl, rfl⟩) | (go_at_call 89; refine (digitB _ _ hc).mono ?_; rintro e w' ⟨rfl, rfl⟩))
        go_ret
        exact ⟨rfl, rfl⟩
    · have : r = 99 := by rw [HR.out, sortC_c]; exact cpB_iff.1 h2
      subst this
      go_enter Try.func70, Try.ntmps70
      go_wp2_with (first | (go_at_call 86; refine (smallB _ _ hc).mono ?_; rintro e w' ⟨rfl, rfl⟩) | (go_at_call 87; refine (capitalB _ _ hc).mono ?_; rintro e w' ⟨rfl, rfl⟩) | (go_at_call 89; refine (digitB _ _ hc).mono ?_; rintro e w' ⟨rfl, rfl⟩))
      go_ret
      exact ⟨rfl, rfl⟩
  · have : r = 115 := by rw [HR.out, sortC_s]; exact smB_iff.1 h1
    subst this
    go_enter Try.func70, Try.ntmps70
    go_wp2_with (first | (go_at_call 86; refine (smallB _ _ hc).mono ?_; rintro e w' ⟨rfl, rfl⟩) | (go_at_call 87; refine (capitalB _ _ hc).mono ?_; rintro e w' ⟨rfl, rfl⟩) | (go_at_call 89; refine (digitB _ _ hc).mono ?_; rintro e w' ⟨rfl, rfl⟩))
    go_ret
    exact ⟨rfl, rfl⟩

set_option maxHeartbeats 1000000 in
theorem edge_any (t : ByteArray) (i : Nat) (w : World) (ht : t.size ≤ 500) (hi : i ≤ t.size) :
    Calls Try.prog 99 #[.string t, .int .i64 i] w fun e w' => e = .returned (.bool (decide (Edge t i))) ∧ w' = w := by
  obtain ⟨r, hr⟩ : ∃ r, r = decide (Edge t i) := ⟨_, rfl⟩
  rw [← hr]
  by_cases h0 : i = 0
  · subst h0
    rw [decide_eq_true (edge_zero t)] at hr
    subst hr
    go_enter Try.func99, Try.ntmps99
    go_wp2
    go_ret
    exact ⟨rfl, rfl⟩
  · by_cases h1 : i = t.size
    · subst h1
      rw [decide_eq_true (edge_end t)] at hr
      subst hr
      have h0' : ((t.size : Int) == 0) = false := by simp only [beq_eq_false_iff_ne]; omega
      clear hi h0
      go_enter Try.func99, Try.ntmps99
      go_wp2
      go_ret
      exact ⟨rfl, rfl⟩
    · have hlt : i < t.size := by omega
      have hbt := bt_get t i hlt
      have h0' : ((i : Int) == 0) = false := by simp only [beq_eq_false_iff_ne]; omega
      have h1' : ((i : Int) == (t.size : Int)) = false := by simp only [beq_eq_false_iff_ne]; omega
      by_cases h2 : bt t i = 126
      · rw [decide_eq_false (fun h => by rcases h with h | h | h; exact h0 h; exact h1 h; exact h h2)] at hr
        subst hr
        rw [h2] at hbt
        clear h2
        go_enter Try.func99, Try.ntmps99
        go_wp2
        go_ret
        exact ⟨rfl, rfl⟩
      · rw [decide_eq_true (.inr (.inr h2))] at hr
        subst hr
        have h2' : ((bt t i : Int) != 126) = true := by simp; omega
        go_enter Try.func99, Try.ntmps99
        go_wp2
        go_ret
        exact ⟨rfl, rfl⟩

set_option maxHeartbeats 1000000 in
theorem first_any (t : ByteArray) (i : Nat) (w : World) (ht : t.size ≤ 500) (hi : i ≤ t.size) :
    Calls Try.prog 100 #[.string t, .int .i64 i] w fun e w' => e = .returned (.int .i64 (frst t i)) ∧ w' = w := by
  go_enter Try.func100, Try.ntmps100
  go_wp2_with fail
  go_loopw [1] (fun x wr => ∃ k : Nat, k ≤ i ∧ x = .int .i64 k ∧ frst t k = frst t i ∧ wr = w) (fun x _ => (intOf x).toNat)
  case atStart => exact ⟨i, Nat.le_refl _, rfl, rfl, rfl⟩
  case round =>
    obtain ⟨k, hk, rfl, hf, rfl⟩ := hrel
    have HF : Hid (frst t k = frst t i) := hf
    clear hf
    by_cases he : Edge t k
    · have HE := frst_edge he
      rw [HF.out] at HE
      have hd : decide (Edge t k) = true := decide_eq_true he
      have HR : Hid (frst t i = k) := HE
      clear he HE
      go_wp2_with fail
      refine (edge_any t k _ ht (by omega)).mono ?_
      rintro e w' ⟨rfl, rfl⟩
      rw [hd]
      go_wp2_with fail
      go_ret
      exact ⟨by rw [HR.out]; rfl, rfl⟩
    · obtain ⟨h1, h2⟩ := frst_pred he
      have hd : decide (Edge t k) = false := decide_eq_false he
      have HR : Hid (frst t (k - 1) = frst t i) := by show _ = _; rw [← h2, HF.out]
      clear he h2
      go_wp2_with fail
      refine (edge_any t k _ ht (by omega)).mono ?_
      rintro e w' ⟨rfl, rfl⟩
      rw [hd]
      go_wp2_with fail
      go_roundw
      case rel => exact ⟨k - 1, by omega, by go_num, HR.out, by trivial⟩
      case measure => simp [intOf]; omega

set_option maxHeartbeats 1000000 in
theorem parts_any (t : ByteArray) (i : Nat) (w : World) (ht : t.size ≤ 500) (hi : i < t.size) (h0 : 0 < i) :
    Calls Try.prog 69 #[.string t, .int .i64 i] w fun e w' => e = .returned (.bool (decide (Parts t i))) ∧ w' = w := by
  obtain ⟨r, hr⟩ : ∃ r, r = decide (Parts t i) := ⟨_, rfl⟩
  rw [← hr]
  have HR : Hid (r = decide (Parts t i)) := hr
  clear hr
  go_enter Try.func69, Try.ntmps69
  by_cases he : Edge t i
  · have hd : decide (Edge t i) = true := decide_eq_true he
    have HP : Hid (r = decide (sortAt t (i - 1) ≠ sortC (bt t i) ∨ sortAt t (i - 1) = 111)) := by
      show _ = _
      rw [HR.out, decide_eq_decide]
      exact ⟨fun h => h.2, fun h => ⟨he, h⟩⟩
    obtain ⟨j, hj⟩ : ∃ j, j = i - 1 := ⟨_, rfl⟩
    rw [← hj] at HP
    have hji : (i : Int) - 1 = (j : Int) := by omega
    have hjs : j ≤ t.size := by omega
    have hfl : frst t j ≤ j := frst_le t j
    obtain ⟨f, hf⟩ : ∃ f, f = frst t j := ⟨_, rfl⟩
    rw [← hf] at hfl
    have hfs : f < t.size := by omega
    have hbf := bt_get t f hfs
    have hbi := bt_get t i hi
    have hlf := bt_lt t f
    have hli := bt_lt t i
    obtain ⟨a, ha⟩ : ∃ a, a = sortC (bt t f) := ⟨_, rfl⟩
    obtain ⟨b, hb⟩ : ∃ b, b = sortC (bt t i) := ⟨_, rfl⟩
    have hal : a < 256 := by rw [ha]; exact sortC_lt _
    have hbl : b < 256 := by rw [hb]; exact sortC_lt _
    have HP' : Hid (r = decide (a ≠ b ∨ a = 111)) := by
      have := HP.out
      unfold sortAt at this
      rw [← hf, ← ha, ← hb] at this
      exact this
    have hwj : IntKind.i64.wrap (j : Int) = (j : Int) := by rw [IntKind.wrap_i64]; omega
    have HFF : Hid (f = frst t j) := hf
    have HAA : Hid (a = sortC (bt t f)) := ha
    have HBB : Hid (b = sortC (bt t i)) := hb
    clear HP he hf ha hb hj
    go_wp2_with fail
    refine (edge_any t _ _ ht (by omega)).mono ?_
    rintro e w' ⟨rfl, rfl⟩
    rw [hd]
    go_wp2_with fail
    refine (first_any t j _ ht hjs).mono ?_
    rintro e w' ⟨rfl, rfl⟩
    rw [← HFF.out]
    go_wp2_with fail
    refine (sort_any _ _ hlf).mono ?_
    rintro e w' ⟨rfl, rfl⟩
    rw [← HAA.out]
    go_wp2_with fail
    refine (sort_any _ _ hli).mono ?_
    rintro e w' ⟨rfl, rfl⟩
    rw [← HBB.out]
    by_cases hab : a = b
    · have hab' : ((a : Int) != (b : Int)) = false := by simp; omega
      by_cases h111 : a = 111
      · have h1' : ((a : Int) == 111) = true := by simp; omega
        have hr : r = true := by rw [HP'.out]; simp [h111]
        subst hr
        clear hab h111
        go_wp2
        go_ret
        exact ⟨rfl, rfl⟩
      · have h1' : ((a : Int) == 111) = false := by simp; omega
        have hr : r = false := by rw [HP'.out]; simp [h111, hab]; omega
        subst hr
        clear hab h111
        go_wp2
        go_ret
        exact ⟨rfl, rfl⟩
    · have hab' : ((a : Int) != (b : Int)) = true := by simp; omega
      have hr : r = true := by rw [HP'.out]; simp [hab]
      subst hr
      clear hab
      go_wp2
      go_ret
      exact ⟨rfl, rfl⟩
  · have hd : decide (Edge t i) = false := decide_eq_false he
    have : r = false := by rw [HR.out]; exact decide_eq_false fun h => he h.1
    subst this
    go_wp2_with (go_at_call 99; refine (edge_any t _ _ ht (by omega)).mono ?_; rintro e w' ⟨rfl, rfl⟩; rw [hd])
    go_ret
    exact ⟨rfl, rfl⟩

end Go.Proofs.Ytlfpepehngkehaa
