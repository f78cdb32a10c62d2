/-
  Walks: how far a row of the table's words goes; is a word known.
-/
import Derived.Test.YtlfpepehngkehaaDoorKeepK
namespace Go.Proofs.YtlfpepehngkehaaDoor
set_option linter.unusedSimpArgs false
set_option linter.unusedVariables false
open Go.RowKit

/-- the farthest of i and of what the words that end within the next m places lead to. -/
def farTo (f : Nat → Nat) (T : Tab) (t : ByteArray) (i : Nat) : Nat → Nat
  | 0 => i
  | m + 1 => if TStands T t i (i + m + 1) then max (farTo f T t i m) (f (i + m + 1)) else farTo f T t i m
def farT (T : Tab) (t : ByteArray) : Nat → Nat → Nat
  | 0, i => i
  | n + 1, i => farTo (farT T t n) T t i 5

theorem farTo_end {f : Nat → Nat} {T : Tab} {t : ByteArray} {i m : Nat} (h : t.size ≤ i + m) : ∀ k, m ≤ k → farTo f T t i k = farTo f T t i m := by
  intro k hk
  induction hk with
  | refl => rfl
  | @step k hk ih =>
    have hk : m ≤ k := hk
    simp only [Nat.succ_eq_add_one, farTo]
    rw [if_neg (fun h' => by have := h'.1; omega)]
    exact ih

def FarRel (T : Tab) (t : ByteArray) (n i : Nat) (w : World) (g : Nat) (f y : Value) (wr : World) : Prop := ∃ m : Nat, g = 5 - m ∧ m ≤ 5 ∧ y = .int .i64 ((i + m + 1 : Nat) : Int) ∧ f = .int .i64 (farTo (farT T t n) T t i m) ∧ wr = w

set_option maxHeartbeats 2000000 in
theorem far_any (w : World) (B : Nat) (T : Tab) (Wv Cv : Value) (hB : TabAt w B T Wv Cv) (hT : T.length ≤ 1000) (t : ByteArray) (ht : t.size ≤ 500) : ∀ (n : Nat), n ≤ 3 → ∀ i : Nat, i ≤ 600 →
    Calls Tryd.prog 33 #[.pointer (some ⟨B, 0, none⟩), .string t, .int .i64 i, .int .i64 n] w fun e w' => e = .returned (.int .i64 (farT T t n i)) ∧ w' = w := by
  intro n
  induction n with
  | zero =>
    intro _ i hi
    obtain ⟨e1, he1⟩ : ∃ e1, e1 = i + 1 := ⟨_, rfl⟩
    have hi11 : (i : Int) + 1 = (e1 : Int) := by omega
    have hwe1 : IntKind.i64.wrap (e1 : Int) = (e1 : Int) := by rw [IntKind.wrap_i64]; omega
    simp only [farT]
    clear he1
    go_enter Tryd.func33, Tryd.ntmps33
    go_wp2_with fail
    go_loopg [9, 10] 0 (fun g f y wr => f = .int .i64 i ∧ y = .int .i64 e1 ∧ wr = w ∧ g = 0)
    case atStart => exact ⟨rfl, rfl, rfl, rfl⟩
    case round =>
      obtain ⟨rfl, rfl, rfl, rfl⟩ := hrel
      go_wp2_with fail
      go_ret
      exact ⟨rfl, rfl⟩
  | succ n ih =>
    intro hn i hi
    have HIH : Hid (∀ i : Nat, i ≤ 600 → Calls Tryd.prog 33 #[.pointer (some ⟨B, 0, none⟩), .string t, .int .i64 i, .int .i64 n] w fun e w' => e = .returned (.int .i64 (farT T t n i)) ∧ w' = w) := ih (by omega)
    clear ih
    have HB : Hid (TabAt w B T Wv Cv) := hB
    clear hB
    obtain ⟨e1, he1⟩ : ∃ e1, e1 = i + 1 := ⟨_, rfl⟩
    have HE1 : Hid (e1 = i + 1) := he1
    have hi11 : (i : Int) + 1 = (e1 : Int) := by omega
    have hwe1 : IntKind.i64.wrap (e1 : Int) = (e1 : Int) := by rw [IntKind.wrap_i64]; omega
    obtain ⟨e5, he5⟩ : ∃ e5, e5 = i + 5 := ⟨_, rfl⟩
    have HE5 : Hid (e5 = i + 5) := he5
    have hi5 : (i : Int) + 5 = (e5 : Int) := by omega
    have hwe5 : IntKind.i64.wrap (e5 : Int) = (e5 : Int) := by rw [IntKind.wrap_i64]; omega
    obtain ⟨R, hR⟩ : ∃ R, R = farT T t (n + 1) i := ⟨_, rfl⟩
    rw [← hR]
    have HR : Hid (R = farTo (farT T t n) T t i 5) := hR
    obtain ⟨N, hN⟩ : ∃ N, N = n + 1 := ⟨_, rfl⟩
    rw [← hN]
    have hn1 : (N : Int) - 1 = (n : Int) := by omega
    have hwn : IntKind.i64.wrap (n : Int) = (n : Int) := by rw [IntKind.wrap_i64]; omega
    have hn0 : (0 : Int) < (N : Int) := by omega
    clear he1 he5 hR hN
    go_enter Tryd.func33, Tryd.ntmps33
    go_wp2_with fail
    go_loopg [9, 10] 5 (fun g f y wr => FarRel T t n i w g f y wr)
    case atStart => exact ⟨0, rfl, Nat.zero_le _, by rw [HE1.out], rfl, rfl⟩
    case round =>
      obtain ⟨m, rfl, hm, rfl, rfl, rfl⟩ := hrel
      obtain ⟨j, hj⟩ : ∃ j, j = i + m + 1 := ⟨_, rfl⟩
      rw [← hj]
      obtain ⟨b, hb⟩ : ∃ b, b = farTo (farT T t n) T t i m := ⟨_, rfl⟩
      rw [← hb]
      have HJ : Hid (j = i + m + 1) := hj
      have HBB : Hid (b = farTo (farT T t n) T t i m) := hb
      have hj9 : j ≤ 1000 := by omega
      by_cases hgo : m < 5 ∧ j ≤ t.size
      · have hg1 : (j : Int) ≤ (e5 : Int) := by have := HE5.out; omega
        have hg2 : (j : Int) ≤ (t.size : Int) := by omega
        have hj6 : j ≤ 600 := by omega
        have hmeas : 5 - (m + 1) < 5 - m := by omega
        have hm5 : m + 1 ≤ 5 := by omega
        have hjj : (j : Int) + 1 = ((i + (m + 1) + 1 : Nat) : Int) := by omega
        have HJJ : Hid ((j : Int) + 1 = ((i + (m + 1) + 1 : Nat) : Int)) := hjj
        by_cases hs : TStands T t i j
        · have hd : decide (TStands T t i j) = true := decide_eq_true hs
          obtain ⟨r, hr⟩ : ∃ r, r = farT T t n j := ⟨_, rfl⟩
          have HRR : Hid (r = farT T t n j) := hr
          have HNX : Hid (farTo (farT T t n) T t i (m + 1) = max b r) := by show _ = _; simp only [farTo]; rw [← hj, if_pos hs, ← hb, hr]
          clear hs hr hj hb hgo hjj
          go_wp2_with fail
          refine (tstands_any wr B T Wv Cv HB.out hT t ht i j hj9).mono ?_
          rintro e wr ⟨rfl, rfl⟩
          rw [hd]
          go_wp2_with fail
          refine (HIH.out j hj6).mono ?_
          rintro e wr ⟨rfl, rfl⟩
          rw [← HRR.out]
          by_cases hbr : b < r
          · have hbr' : (b : Int) < (r : Int) := by omega
            have HN2 : Hid (FarRel T t n i wr (5 - (m + 1)) (.int .i64 r) (.int .i64 ((j : Int) + 1)) wr) := ⟨m + 1, rfl, hm5, by rw [HJJ.out], by rw [HNX.out, Nat.max_eq_right (Nat.le_of_lt hbr)], rfl⟩
            go_wp2_with fail
            go_roundg (5 - (m + 1))
            case measure => exact hmeas
            case rel => exact HN2.out
          · have hbr' : ¬ (b : Int) < (r : Int) := by omega
            have HN2 : Hid (FarRel T t n i wr (5 - (m + 1)) (.int .i64 b) (.int .i64 ((j : Int) + 1)) wr) := ⟨m + 1, rfl, hm5, by rw [HJJ.out], by rw [HNX.out, Nat.max_eq_left (Nat.le_of_not_lt hbr)], rfl⟩
            go_wp2_with fail
            go_roundg (5 - (m + 1))
            case measure => exact hmeas
            case rel => exact HN2.out
        · have hd : decide (TStands T t i j) = false := decide_eq_false hs
          have HN2 : Hid (FarRel T t n i wr (5 - (m + 1)) (.int .i64 b) (.int .i64 ((j : Int) + 1)) wr) := ⟨m + 1, rfl, hm5, by rw [hjj], by simp only [farTo]; rw [← hj, if_neg hs, hb], rfl⟩
          clear hs hj hb hgo hjj
          go_wp2_with fail
          refine (tstands_any wr B T Wv Cv HB.out hT t ht i j hj9).mono ?_
          rintro e wr ⟨rfl, rfl⟩
          rw [hd]
          go_wp2_with fail
          go_roundg (5 - (m + 1))
          case measure => exact hmeas
          case rel => exact HN2.out
      · have hgo' : ¬ (j : Int) ≤ (e5 : Int) ∨ ((j : Int) ≤ (e5 : Int) ∧ ¬ (j : Int) ≤ (t.size : Int)) := by have := HE5.out; omega
        have hbR : b = R := by
          rw [HR.out, hb]
          by_cases h5 : m < 5
          · exact (farTo_end (by omega) 5 hm).symm
          · rw [show m = 5 by omega]
        subst hbR
        clear hj hb hgo HR HBB
        rcases hgo' with hgo | ⟨hgo, hgo2⟩
        all_goals
          go_wp2_with fail
          go_ret
          exact ⟨rfl, rfl⟩

/-- a word of the table stands at i. -/
def AnyT (T : Tab) (t : ByteArray) (i : Nat) : Prop := ∃ m, m < 5 ∧ TStands T t i (i + m + 1)

def KnownRel (T : Tab) (t : ByteArray) (i : Nat) (w : World) (g : Nat) (y : Value) (wr : World) : Prop := ∃ m : Nat, g = 5 - m ∧ m ≤ 5 ∧ y = .int .i64 ((i + m + 1 : Nat) : Int) ∧ (∀ k, k < m → ¬ TStands T t i (i + k + 1)) ∧ wr = w
def KnownRes (T : Tab) (t : ByteArray) (i : Nat) (e : Ending) : Prop := ∃ b : Bool, e = .returned (.bool b) ∧ (b = true ↔ AnyT T t i)

set_option maxHeartbeats 2000000 in
theorem known_any (w : World) (B : Nat) (T : Tab) (Wv Cv : Value) (hB : TabAt w B T Wv Cv) (hT : T.length ≤ 1000) (t : ByteArray) (ht : t.size ≤ 500) (i : Nat) (hi : i ≤ 600) :
    Calls Tryd.prog 32 #[.pointer (some ⟨B, 0, none⟩), .string t, .int .i64 i] w fun e w' => KnownRes T t i e ∧ w' = w := by
  have HB : Hid (TabAt w B T Wv Cv) := hB
  clear hB
  obtain ⟨e1, he1⟩ : ∃ e1, e1 = i + 1 := ⟨_, rfl⟩
  have HE1 : Hid (e1 = i + 1) := he1
  have hi11 : (i : Int) + 1 = (e1 : Int) := by omega
  have hwe1 : IntKind.i64.wrap (e1 : Int) = (e1 : Int) := by rw [IntKind.wrap_i64]; omega
  obtain ⟨e5, he5⟩ : ∃ e5, e5 = i + 5 := ⟨_, rfl⟩
  have HE5 : Hid (e5 = i + 5) := he5
  have hi5 : (i : Int) + 5 = (e5 : Int) := by omega
  have hwe5 : IntKind.i64.wrap (e5 : Int) = (e5 : Int) := by rw [IntKind.wrap_i64]; omega
  clear he1 he5
  go_enter Tryd.func32, Tryd.ntmps32
  go_wp2_with fail
  go_loopg [7] 5 (fun g y wr => KnownRel T t i w g y wr)
  case atStart => exact ⟨0, rfl, Nat.zero_le _, by rw [HE1.out], fun k hk => by omega, rfl⟩
  case round =>
    obtain ⟨m, rfl, hm, rfl, hno, rfl⟩ := hrel
    have HNO : Hid (∀ k, k < m → ¬ TStands T t i (i + k + 1)) := hno
    obtain ⟨j, hj⟩ : ∃ j, j = i + m + 1 := ⟨_, rfl⟩
    rw [← hj]
    have hj9 : j ≤ 1000 := by omega
    clear hno
    by_cases hgo : m < 5 ∧ j ≤ t.size
    · have hg1 : (j : Int) ≤ (e5 : Int) := by have := HE5.out; omega
      have hg2 : (j : Int) ≤ (t.size : Int) := by omega
      have hmeas : 5 - (m + 1) < 5 - m := by omega
      have hjj : (j : Int) + 1 = ((i + (m + 1) + 1 : Nat) : Int) := by omega
      by_cases hs : TStands T t i j
      · have hd : decide (TStands T t i j) = true := decide_eq_true hs
        have HK : Hid (KnownRes T t i (.returned (.bool true))) := ⟨true, rfl, ⟨fun _ => ⟨m, hgo.1, by rw [← hj]; exact hs⟩, fun _ => rfl⟩⟩
        clear hs hj hgo hjj
        go_wp2_with fail
        refine (tstands_any wr B T Wv Cv HB.out hT t ht i j hj9).mono ?_
        rintro e wr ⟨rfl, rfl⟩
        rw [hd]
        go_wp2_with fail
        go_ret
        exact ⟨HK.out, rfl⟩
      · have hd : decide (TStands T t i j) = false := decide_eq_false hs
        have HN2 : Hid (KnownRel T t i wr (5 - (m + 1)) (.int .i64 ((j : Int) + 1)) wr) := ⟨m + 1, rfl, hgo.1, by rw [hjj], (fun k hk => by
          by_cases e : k = m
          · subst e; rw [← hj]; exact hs
          · exact HNO.out k (by omega)), rfl⟩
        clear hs hj hgo hjj
        go_wp2_with fail
        refine (tstands_any wr B T Wv Cv HB.out hT t ht i j hj9).mono ?_
        rintro e wr ⟨rfl, rfl⟩
        rw [hd]
        go_wp2_with fail
        go_roundg (5 - (m + 1))
        case measure => exact hmeas
        case rel => exact HN2.out
    · have hgo' : ¬ (j : Int) ≤ (e5 : Int) ∨ ((j : Int) ≤ (e5 : Int) ∧ ¬ (j : Int) ≤ (t.size : Int)) := by have := HE5.out; omega
      have HK : Hid (KnownRes T t i (.returned (.bool false))) := ⟨false, rfl, ⟨fun h => Bool.noConfusion h, fun ⟨k, h1, h2⟩ => by
        by_cases hk : k < m
        · exact absurd h2 (HNO.out k hk)
        · have := h2.1; omega⟩⟩
      clear hj hgo
      rcases hgo' with hgo | ⟨hgo, hgo2⟩
      all_goals
        go_wp2_with fail
        go_ret
        exact ⟨HK.out, rfl⟩

end Go.Proofs.YtlfpepehngkehaaDoor
