/-
  Walks: the keep statements' own clusters, words that stand, lists of boundaries.
-/
import Derived.Test.YtlfpepehngkehaaDoorKeepF
import Derived.Test.YtlfpepehngkehaaDoorKeepBC
import Derived.Test.YtlfpepehngkehaaDoorMaths
import Derived.BigQuiet
import Derived.Deep.QuietTactic
import Derived.Lib.BufferRead
namespace Go.Proofs.YtlfpepehngkehaaDoor
set_option linter.unusedSimpArgs false
set_option linter.unusedVariables false
open Go.RowKit

set_option maxHeartbeats 1000000 in
theorem keepEdge_any (t : ByteArray) (i : Nat) (w : World) (ht : t.size ≤ 500) (hi : i ≤ t.size) :
    Calls Tryd.prog 30 #[.string t, .int .i64 i] w fun e w' => e = .returned (.bool (decide (Edge t i))) ∧ w' = w := by
  obtain ⟨r, hr⟩ : ∃ r, r = decide (Edge t i) := ⟨_, rfl⟩
  rw [← hr]
  by_cases h0 : i = 0
  · subst h0
    rw [decide_eq_true (edge_zero t)] at hr
    subst hr
    go_enter Tryd.func30, Tryd.ntmps30
    go_wp2
    go_ret
    exact ⟨rfl, rfl⟩
  · by_cases h1 : i = t.size
    · subst h1
      rw [decide_eq_true (edge_end t)] at hr
      subst hr
      have h0' : ((t.size : Int) == 0) = false := by simp only [beq_eq_false_iff_ne]; omega
      clear hi h0
      go_enter Tryd.func30, Tryd.ntmps30
      go_wp2
      go_ret
      exact ⟨rfl, rfl⟩
    · have hlt : i < t.size := by omega
      have hbt := bt_get t i hlt
      have h0' : ((i : Int) == 0) = false := by simp only [beq_eq_false_iff_ne]; omega
      have h1' : ((i : Int) == (t.size : Int)) = false := by simp only [beq_eq_false_iff_ne]; omega
      by_cases h2 : bt t i = 126
      · rw [decide_eq_false (fun h => by rcases h with h | h | h; exact h0 h; exact h1 h; exact h h2)] at hr
        subst hr
        rw [h2] at hbt
        clear h2
        go_enter Tryd.func30, Tryd.ntmps30
        go_wp2
        go_ret
        exact ⟨rfl, rfl⟩
      · rw [decide_eq_true (.inr (.inr h2))] at hr
        subst hr
        have h2' : ((bt t i : Int) != 126) = true := by simp; omega
        go_enter Tryd.func30, Tryd.ntmps30
        go_wp2
        go_ret
        exact ⟨rfl, rfl⟩

/-- where the cluster that begins at i is over. -/
def AfterIs (t : ByteArray) (i p : Nat) : Prop := i < p ∧ p ≤ t.size ∧ Edge t p ∧ ∀ j, i < j → j < p → ¬ Edge t j

theorem AfterIs.unique {t : ByteArray} {i p q : Nat} (h : AfterIs t i p) (h' : AfterIs t i q) : p = q := by
  obtain ⟨a1, _, a3, a4⟩ := h
  obtain ⟨b1, _, b3, b4⟩ := h'
  by_cases e1 : p < q
  · exact absurd a3 (b4 p a1 e1)
  · by_cases e2 : q < p
    · exact absurd b3 (a4 q b1 e2)
    · omega

def AfterRel (t : ByteArray) (i : Nat) (w : World) (g : Nat) (x : Value) (wr : World) : Prop := ∃ p : Nat, g = t.size - p ∧ i < p ∧ p ≤ t.size ∧ x = .int .i64 p ∧ (∀ j, i < j → j < p → ¬ Edge t j) ∧ wr = w
def AfterRes (t : ByteArray) (i : Nat) (e : Ending) : Prop := ∃ p : Nat, e = .returned (.int .i64 p) ∧ AfterIs t i p

set_option maxHeartbeats 1000000 in
theorem after_any (t : ByteArray) (i : Nat) (w : World) (ht : t.size ≤ 500) (hi : i < t.size) :
    Calls Tryd.prog 29 #[.string t, .int .i64 i] w fun e w' => AfterRes t i e ∧ w' = w := by
  obtain ⟨e1, he1⟩ : ∃ e1, e1 = i + 1 := ⟨_, rfl⟩
  have HE1 : Hid (e1 = i + 1) := he1
  have hi11 : (i : Int) + 1 = (e1 : Int) := by omega
  have hwe1 : IntKind.i64.wrap (e1 : Int) = (e1 : Int) := by rw [IntKind.wrap_i64]; omega
  clear he1
  go_enter Tryd.func29, Tryd.ntmps29
  go_wp2_with fail
  clear hi11 hwe1
  go_loopg [1] (t.size - e1) (fun g x wx => AfterRel t i w g x wx)
  case atStart => exact ⟨e1, rfl, by have := HE1.out; omega, by have := HE1.out; omega, rfl, fun j a b => by have := HE1.out; omega, rfl⟩
  case round =>
    obtain ⟨p, rfl, hp1, hp2, rfl, hp3, rfl⟩ := hrel
    have HP : Hid (∀ j, i < j → j < p → ¬ Edge t j) := hp3
    clear hp3
    by_cases he : Edge t p
    · have hd : decide (Edge t p) = true := decide_eq_true he
      have HA : Hid (AfterIs t i p) := ⟨hp1, hp2, he, HP.out⟩
      clear he
      go_wp2_with fail
      refine (keepEdge_any t p _ ht hp2).mono ?_
      rintro e wr ⟨rfl, rfl⟩
      rw [hd]
      go_wp2_with fail
      go_ret
      exact ⟨⟨p, rfl, HA.out⟩, rfl⟩
    · have hd : decide (Edge t p) = false := decide_eq_false he
      have hlt : p < t.size := by
        rcases Nat.lt_or_ge p t.size with h | h
        · exact h
        · exact absurd (edge_end t) (by rw [show t.size = p by omega]; exact he)
      have HP2 : Hid (AfterRel t i wr (t.size - (p + 1)) (.int .i64 ((p : Int) + 1)) wr) := ⟨p + 1, rfl, by omega, hlt, by go_num, (fun j a b => by
        by_cases e : j = p
        · subst e; exact he
        · exact HP.out j a (by omega)), rfl⟩
      clear he
      go_wp2_with fail
      refine (keepEdge_any t p _ ht hp2).mono ?_
      rintro e wr ⟨rfl, rfl⟩
      rw [hd]
      go_wp2_with fail
      go_roundg (t.size - (p + 1))
      case measure => omega
      case rel => exact HP2.out

/-- a word of the table stands from i up to j. -/
def TStands (T : Tab) (t : ByteArray) (i j : Nat) : Prop := j ≤ t.size ∧ i < j ∧ Edge t i ∧ Edge t j ∧ 0 ≤ tcost T (t.extract i j)
instance (T : Tab) (t : ByteArray) (i j : Nat) : Decidable (TStands T t i j) := inferInstanceAs (Decidable (_ ∧ _))

set_option maxHeartbeats 2000000 in
theorem tstands_any (w : World) (B : Nat) (T : Tab) (Wv Cv : Value) (hB : TabAt w B T Wv Cv) (hT : T.length ≤ 1000) (t : ByteArray) (ht : t.size ≤ 500) (i j : Nat) (hj9 : j ≤ 1000) :
    Calls Tryd.prog 28 #[.pointer (some ⟨B, 0, none⟩), .string t, .int .i64 i, .int .i64 j] w fun e w' => e = .returned (.bool (decide (TStands T t i j))) ∧ w' = w := by
  obtain ⟨r, hr⟩ : ∃ r, r = decide (TStands T t i j) := ⟨_, rfl⟩
  rw [← hr]
  have HR : Hid (r = decide (TStands T t i j)) := hr
  have HB : Hid (TabAt w B T Wv Cv) := hB
  clear hr hB
  go_enter Tryd.func28, Tryd.ntmps28
  by_cases h1 : j ≤ t.size
  · have h1' : ¬ (t.size : Int) < (j : Int) := by omega
    by_cases h2 : i < j
    · have h2' : ¬ (j : Int) ≤ (i : Int) := by omega
      have hit : i ≤ t.size := by omega
      by_cases h3 : Edge t i
      · have d3 : decide (Edge t i) = true := decide_eq_true h3
        by_cases h4 : Edge t j
        · have d4 : decide (Edge t j) = true := decide_eq_true h4
          obtain ⟨c, hc⟩ : ∃ c, c = tcost T (t.extract i j) := ⟨_, rfl⟩
          have HC : Hid (c = tcost T (t.extract i j)) := hc
          have hij : (i : Int) ≤ (j : Int) := by omega
          have hjt : (j : Int) ≤ (t.size : Int) := by omega
          have hrc : r = decide (0 ≤ c) := by
            rw [HR.out, decide_eq_decide, hc]
            exact ⟨fun h => h.2.2.2.2, fun h => ⟨h1, h2, h3, h4, h⟩⟩
          clear h3 h4 hc HR
          have HRC : Hid (r = decide (0 ≤ c)) := hrc
          clear hrc
          go_wp2_with fail
          refine (keepEdge_any t i _ ht hit).mono ?_
          rintro e w ⟨rfl, rfl⟩
          rw [d3]
          go_wp2_with fail
          refine (keepEdge_any t j _ ht h1).mono ?_
          rintro e w ⟨rfl, rfl⟩
          rw [d4]
          go_wp2_with fail
          refine (cost_any w B T Wv Cv HB.out hT (t.extract i j)).mono ?_
          rintro e w ⟨rfl, rfl⟩
          rw [← HC.out]
          go_wp2_with fail
          go_ret
          exact ⟨by rw [HRC.out]; rfl, rfl⟩
        · have d4 : decide (Edge t j) = false := decide_eq_false h4
          have hr : r = false := by rw [HR.out]; exact decide_eq_false fun h => h4 h.2.2.2.1
          subst hr
          clear h3 h4
          go_wp2_with fail
          refine (keepEdge_any t i _ ht hit).mono ?_
          rintro e w ⟨rfl, rfl⟩
          rw [d3]
          go_wp2_with fail
          refine (keepEdge_any t j _ ht h1).mono ?_
          rintro e w ⟨rfl, rfl⟩
          rw [d4]
          go_wp2
          go_ret
          exact ⟨rfl, rfl⟩
      · have d3 : decide (Edge t i) = false := decide_eq_false h3
        have hr : r = false := by rw [HR.out]; exact decide_eq_false fun h => h3 h.2.2.1
        subst hr
        clear h3
        go_wp2_with fail
        refine (keepEdge_any t i _ ht hit).mono ?_
        rintro e w ⟨rfl, rfl⟩
        rw [d3]
        go_wp2
        go_ret
        exact ⟨rfl, rfl⟩
    · have h2' : (j : Int) ≤ (i : Int) := by omega
      have hr : r = false := by rw [HR.out]; exact decide_eq_false fun h => h2 h.2.1
      subst hr
      go_wp2
      go_ret
      exact ⟨rfl, rfl⟩
  · have h1' : (t.size : Int) < (j : Int) := by omega
    have hr : r = false := by rw [HR.out]; exact decide_eq_false fun h => h1 h.1
    subst hr
    go_wp2
    go_ret
    exact ⟨rfl, rfl⟩

end Go.Proofs.YtlfpepehngkehaaDoor
