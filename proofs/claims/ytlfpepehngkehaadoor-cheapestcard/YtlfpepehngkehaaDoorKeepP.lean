/-
  Walks: is a piece of capitals the one that the document asks for.
-/
import Derived.Test.YtlfpepehngkehaaDoorKeepO
import Derived.Test.YtlfpepehngkehaaDoorKeepN
namespace Go.Proofs.YtlfpepehngkehaaDoor
set_option linter.unusedSimpArgs false
set_option linter.unusedVariables false
open Go.RowKit

def RightOk (T : Tab) (t : ByteArray) (i j : Nat) : Prop :=
  (¬ AnyT T t i ∧ (∀ m, i < m → m < j → ¬ AnyT T t m) ∧ Edge t j ∧ (j = t.size ∨ AnyT T t j)) ∨
  (AnyT T t i ∧ TStands T t i j ∧ farT T t 2 j = farT T t 3 i ∧ ∀ m, j < m → m ≤ i + 5 → TStands T t i m → farT T t 2 m ≠ farT T t 3 i)

def RightA (T : Tab) (t : ByteArray) (i j : Nat) (w : World) (g : Nat) (y : Value) (wr : World) : Prop := ∃ m : Nat, g = j - m ∧ i < m ∧ m ≤ j ∧ y = .int .i64 m ∧ wr = w
def RightB (i : Nat) (j : Nat) (w : World) (g : Nat) (y : Value) (wr : World) : Prop := ∃ m : Nat, g = i + 6 - m ∧ j < m ∧ m ≤ i + 6 ∧ y = .int .i64 m ∧ wr = w

theorem knownRes_t {T : Tab} {t : ByteArray} {i : Nat} {e : Ending} (h : KnownRes T t i e) (ha : AnyT T t i) : e = .returned (.bool true) := by
  obtain ⟨b, rfl, hb⟩ := h
  rw [hb.2 ha]
theorem knownRes_f {T : Tab} {t : ByteArray} {i : Nat} {e : Ending} (h : KnownRes T t i e) (ha : ¬ AnyT T t i) : e = .returned (.bool false) := by
  obtain ⟨b, rfl, hb⟩ := h
  cases b with
  | false => rfl
  | true => exact absurd (hb.1 rfl) ha

set_option maxHeartbeats 4000000 in
set_option maxRecDepth 100000 in
theorem right_any (w : World) (B : Nat) (T : Tab) (Wv Cv : Value) (hB : TabAt w B T Wv Cv) (hT : T.length ≤ 1000) (t : ByteArray) (ht : t.size ≤ 500) (i j : Nat) (hij : i < j) (hj : j ≤ t.size) (hok : RightOk T t i j) :
    Calls Tryd.prog 14 #[.pointer (some ⟨B, 0, none⟩), .string t, .int .i64 i, .int .i64 j] w fun e w' => e = .returned (.bool true) ∧ w' = w := by
  have HB : Hid (TabAt w B T Wv Cv) := hB
  clear hB
  have hi6 : i ≤ 600 := by omega
  have hj6 : j ≤ 600 := by omega
  have hj9 : j ≤ 1000 := by omega
  obtain ⟨e1, he1⟩ : ∃ e1, e1 = i + 1 := ⟨_, rfl⟩
  have HE1 : Hid (e1 = i + 1) := he1
  have hi11 : (i : Int) + 1 = (e1 : Int) := by omega
  have hwe1 : IntKind.i64.wrap (e1 : Int) = (e1 : Int) := by rw [IntKind.wrap_i64]; omega
  obtain ⟨e5, he5⟩ : ∃ e5, e5 = i + 5 := ⟨_, rfl⟩
  have HE5 : Hid (e5 = i + 5) := he5
  have hi5 : (i : Int) + 5 = (e5 : Int) := by omega
  have hwe5 : IntKind.i64.wrap (e5 : Int) = (e5 : Int) := by rw [IntKind.wrap_i64]; omega
  obtain ⟨j1, hj1⟩ : ∃ j1, j1 = j + 1 := ⟨_, rfl⟩
  have HJ1 : Hid (j1 = j + 1) := hj1
  have hj11 : (j : Int) + 1 = (j1 : Int) := by omega
  have hwj1 : IntKind.i64.wrap (j1 : Int) = (j1 : Int) := by rw [IntKind.wrap_i64]; omega
  clear he1 he5 hj1
  rcases hok with ⟨hn, hno, hed, hend⟩ | ⟨ha, hst, hfar, hmax⟩
  · have HN : Hid (¬ AnyT T t i) := hn
    have HNO : Hid (∀ m, i < m → m < j → ¬ AnyT T t m) := hno
    have hd : decide (Edge t j) = true := decide_eq_true hed
    have HEND : Hid (j = t.size ∨ AnyT T t j) := hend
    clear hn hno hed hend
    go_enter Tryd.func14, Tryd.ntmps14
    go_wp2_with fail
    refine (known_any w B T Wv Cv HB.out hT t ht i hi6).mono ?_
    rintro e w ⟨hk, rfl⟩
    obtain rfl := knownRes_f hk HN.out
    clear hk
    go_wp2_with fail
    go_loopg [10] (j - e1) (fun g y wr => RightA T t i j w g y wr)
    case atStart => exact ⟨e1, rfl, by have := HE1.out; omega, by have := HE1.out; omega, rfl, rfl⟩
    case round =>
      obtain ⟨m, rfl, hm1, hm2, rfl, rfl⟩ := hrel
      have hm6 : m ≤ 600 := by omega
      by_cases hlt : m < j
      · have hlt' : (m : Int) < (j : Int) := by omega
        have HNM : Hid (¬ AnyT T t m) := HNO.out m hm1 hlt
        have HN2 : Hid (RightA T t i j wr (j - (m + 1)) (.int .i64 ((m : Int) + 1)) wr) := ⟨m + 1, rfl, by omega, hlt, by go_num, rfl⟩
        go_wp2_with fail
        refine (known_any wr B T Wv Cv HB.out hT t ht m hm6).mono ?_
        rintro e wr ⟨hk, rfl⟩
        obtain rfl := knownRes_f hk HNM.out
        clear hk
        go_wp2_with fail
        go_roundg (j - (m + 1))
        case measure => omega
        case rel => exact HN2.out
      · have hlt' : ¬ (m : Int) < (j : Int) := by omega
        go_wp2_with fail
        refine (known_any wr B T Wv Cv HB.out hT t ht j hj6).mono ?_
        rintro e wr ⟨⟨b, rfl, hb⟩, rfl⟩
        have hend : ((j : Int) == (t.size : Int)) = true ∨ (((j : Int) == (t.size : Int)) = false ∧ b = true) := by
          rcases HEND.out with h | h
          · left; rw [h]; simp
          · by_cases e : j = t.size
            · left; rw [e]; simp
            · right; exact ⟨by rw [beq_eq_false_iff_ne]; omega, hb.2 h⟩
        clear hb
        rcases hend with h | ⟨h, rfl⟩
        · go_wp2_with fail
          refine (keepEdge_any t j wr ht hj).mono ?_
          rintro e wr ⟨rfl, rfl⟩
          rw [hd]
          go_wp2_with fail
          go_ret
          exact ⟨rfl, rfl⟩
        · go_wp2_with fail
          refine (keepEdge_any t j wr ht hj).mono ?_
          rintro e wr ⟨rfl, rfl⟩
          rw [hd]
          go_wp2_with fail
          go_ret
          exact ⟨rfl, rfl⟩
  · have HA : Hid (AnyT T t i) := ha
    have hd : decide (TStands T t i j) = true := decide_eq_true hst
    obtain ⟨F, hF⟩ : ∃ F, F = farT T t 3 i := ⟨_, rfl⟩
    have HF : Hid (F = farT T t 3 i) := hF
    have HFJ : Hid (farT T t 2 j = F) := by show _ = _; rw [hF]; exact hfar
    have HMAX : Hid (∀ m, j < m → m ≤ i + 5 → TStands T t i m → farT T t 2 m ≠ F) := by rw [hF]; exact hmax
    have heq : ((F : Int) != (F : Int)) = false := by simp
    clear ha hst hF hfar hmax
    go_enter Tryd.func14, Tryd.ntmps14
    go_wp2_with fail
    refine (known_any w B T Wv Cv HB.out hT t ht i hi6).mono ?_
    rintro e w ⟨hk, rfl⟩
    obtain rfl := knownRes_t hk HA.out
    clear hk
    go_wp2_with fail
    refine (tstands_any w B T Wv Cv HB.out hT t ht i j hj9).mono ?_
    rintro e w ⟨rfl, rfl⟩
    rw [hd]
    go_wp2_with fail
    refine (far_any w B T Wv Cv HB.out hT t ht 3 (by decide) i hi6).mono ?_
    rintro e w ⟨rfl, rfl⟩
    rw [← HF.out]
    go_wp2_with fail
    refine (far_any w B T Wv Cv HB.out hT t ht 2 (by decide) j hj6).mono ?_
    rintro e w ⟨rfl, rfl⟩
    rw [HFJ.out]
    go_wp2_with fail
    go_loopg [14] (i + 6 - j1) (fun g y wr => (j1 ≤ i + 6 ∧ RightB i j w g y wr) ∨ (i + 6 < j1 ∧ y = .int .i64 j1 ∧ wr = w ∧ g = 0))
    case atStart =>
      by_cases h : j1 ≤ i + 6
      · exact .inl ⟨h, j1, rfl, by have := HJ1.out; omega, h, rfl, rfl⟩
      · exact .inr ⟨by omega, rfl, rfl, by omega⟩
    case round =>
      rcases hrel with ⟨hj16, m, rfl, hm1, hm2, rfl, rfl⟩ | ⟨hj16, rfl, rfl, rfl⟩
      · have hm6 : m ≤ 600 := by omega
        have hm9 : m ≤ 1000 := by omega
        by_cases hgo : m ≤ i + 5 ∧ m ≤ t.size
        · have hg1 : (m : Int) ≤ (e5 : Int) := by have := HE5.out; omega
          have hg2 : (m : Int) ≤ (t.size : Int) := by omega
          have hmeas : i + 6 - (m + 1) < i + 6 - m := by omega
          have HN2 : Hid (j1 ≤ i + 6 ∧ RightB i j wr (i + 6 - (m + 1)) (.int .i64 ((m : Int) + 1)) wr) := ⟨hj16, m + 1, rfl, by omega, by omega, by go_num, rfl⟩
          by_cases hs : TStands T t i m
          · have hds : decide (TStands T t i m) = true := decide_eq_true hs
            have hne := HMAX.out m hm1 hgo.1 hs
            obtain ⟨r, hr⟩ : ∃ r, r = farT T t 2 m := ⟨_, rfl⟩
            have HRR : Hid (r = farT T t 2 m) := hr
            have hrF : ((r : Int) == (F : Int)) = false := by rw [beq_eq_false_iff_ne, hr]; omega
            clear hs hne hr hgo
            go_wp2_with fail
            refine (tstands_any wr B T Wv Cv HB.out hT t ht i m hm9).mono ?_
            rintro e wr ⟨rfl, rfl⟩
            rw [hds]
            go_wp2_with fail
            refine (far_any wr B T Wv Cv HB.out hT t ht 2 (by decide) m hm6).mono ?_
            rintro e wr ⟨rfl, rfl⟩
            rw [← HRR.out]
            go_wp2_with fail
            go_roundg (i + 6 - (m + 1))
            case measure => exact hmeas
            case rel => exact .inl HN2.out
          · have hds : decide (TStands T t i m) = false := decide_eq_false hs
            obtain ⟨r, hr⟩ : ∃ r, r = farT T t 2 m := ⟨_, rfl⟩
            have HRR : Hid (r = farT T t 2 m) := hr
            clear hs hr hgo
            go_wp2_with fail
            refine (tstands_any wr B T Wv Cv HB.out hT t ht i m hm9).mono ?_
            rintro e wr ⟨rfl, rfl⟩
            rw [hds]
            go_wp2_with fail
            refine (far_any wr B T Wv Cv HB.out hT t ht 2 (by decide) m hm6).mono ?_
            rintro e wr ⟨rfl, rfl⟩
            rw [← HRR.out]
            go_wp2_with fail
            go_roundg (i + 6 - (m + 1))
            case measure => exact hmeas
            case rel => exact .inl HN2.out
        · have hgo' : ¬ (m : Int) ≤ (e5 : Int) ∨ ((m : Int) ≤ (e5 : Int) ∧ ¬ (m : Int) ≤ (t.size : Int)) := by have := HE5.out; omega
          clear hgo
          rcases hgo' with hgo | ⟨hgo, hgo2⟩
          all_goals
            go_wp2_with fail
            go_ret
            exact ⟨rfl, rfl⟩
      · have hgo : ¬ (j1 : Int) ≤ (e5 : Int) := by have := HE5.out; omega
        go_wp2_with fail
        go_ret
        exact ⟨rfl, rfl⟩

end Go.Proofs.YtlfpepehngkehaaDoor
