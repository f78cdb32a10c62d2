/-
  Walks: the reference: where a piece of capitals ends.
-/
import Derived.Test.YtlfpepehngkehaaRefCutC
import Derived.Deep.LoopGhost
namespace Go.Proofs.Ytlfpepehngkehaa
set_option linter.unusedSimpArgs false
set_option linter.unusedVariables false
open Go.RowKit

def AheadRel (D : Dic) (t : ByteArray) (i hi : Nat) (w : World) (a b x : Value) (wr : World) : Prop :=
  ∃ (n : Nat) (a' b' : Int), n ≤ D.length ∧ x = .int .i64 n ∧ a = .int .i64 a' ∧ b = .int .i64 b' ∧ AheadTo D t i hi n a' b' ∧ wr = w

def NextRel (D : Dic) (t : ByteArray) (i hi g : Nat) (w : World) (a : Value) (wr : World) : Prop :=
  ∃ p : Nat, g = hi - p ∧ i < p ∧ p ≤ hi ∧ a = .int .i64 p ∧ (∀ j, i < j → j < p → ¬ AnyAt D t j) ∧ wr = w

def NoneRel (D : Dic) (t : ByteArray) (p g : Nat) (w : World) (x : Value) (wr : World) : Prop :=
  ∃ n : Nat, g = D.length - n ∧ n ≤ D.length ∧ x = .int .i64 n ∧ (∀ k, k < n → ¬ Stands t p (wd D k)) ∧ wr = w

set_option maxHeartbeats 4000000 in
theorem ahead_any (w : World) (B : Nat) (D : Dic) (Wv Cv : Value) (hB : BookAt w B D Wv Cv) (hD : Small D) (t : ByteArray) (ht : t.size ≤ 500) (i hi : Nat) (hhi : hi ≤ t.size) (hih : i < hi) :
    Calls Try.prog 72 #[.pointer (some ⟨B, 0, none⟩), .string t, .int .i64 i, .int .i64 hi] w fun e w' => (∃ p : Nat, e = .returned (.int .i64 p) ∧ AheadOk D t i hi p) ∧ w' = w := by
  obtain ⟨pw, capw, rfl, hgw⟩ := row_form hB.ow
  have hb0 := hB.c0
  have HB : Hid (BookAt w B D (.slice pw D.length capw) Cv) := hB
  have HD : Hid (Small D) := hD
  have hD150 := hD.1
  clear hB hD
  have hits : i ≤ t.size := by omega
  go_enter Try.func72, Try.ntmps72
  go_wp2_with fail
  go_loopw [9, 10, 11] (fun a b x wr => AheadRel D t i hi w a b x wr) (fun _ _ x _ => D.length - (intOf x).toNat)
  case atStart => exact ⟨0, -1, -1, by omega, rfl, rfl, rfl, .inl ⟨fun k hk => by omega, rfl, rfl⟩, rfl⟩
  case round =>
    obtain ⟨n, a', b', hn, rfl, rfl, rfl, hA, rfl⟩ := hrel
    have HA : Hid (AheadTo D t i hi n a' b') := hA
    by_cases hlt : n < D.length
    · have hlt' : (n : Int) < (D.length : Int) := by omega
      by_cases hs : Stands t i (wd D n)
      · have hd : decide (Stands t i (wd D n)) = true := decide_eq_true hs
        have HS : Hid (Stands t i (wd D n)) := hs
        obtain ⟨gw, gc, capw', capc, hWe, hCe, _, _, hw0, _⟩ := HB.out.word hlt
        cases hWe
        have hxs := HD.out.at hlt
        obtain ⟨hx1, hx2, _⟩ := hxs
        have hle := hs.2.1
        obtain ⟨x, hx⟩ : ∃ x, x = wd D n := ⟨_, rfl⟩
        obtain ⟨te, hte⟩ : ∃ te, te = i + (wd D n).size := ⟨_, rfl⟩
        obtain ⟨q, hq⟩ : ∃ q, q = rch D t hi 2 te := ⟨_, rfl⟩
        have HTE : Hid (te = i + (wd D n).size) := hte
        have HQ : Hid (q = rch D t hi 2 te) := hq
        rw [← hx] at hw0 hx1 hx2 hle hte
        have hte' : (i : Int) + (x.size : Int) = (te : Int) := by omega
        have hwt : IntKind.i64.wrap (te : Int) = (te : Int) := by rw [IntKind.wrap_i64]; omega
        clear hs hte hq hx hCe hA
        go_wp2_with fail
        refine (stands_any _ B D _ _ HB.out HD.out t i n ht hits hlt).mono ?_
        rintro e w' ⟨rfl, rfl⟩
        rw [hd]
        go_wp2_with fail
        refine (row_any _ B D _ _ HB.out HD.out t ht hi hhi 2 (Nat.le_refl _) i n hlt HS.out).mono ?_
        rintro e w' ⟨rfl, rfl⟩
        rw [← HTE.out, ← HQ.out]
        by_cases h1 : b' < (q : Int)
        · have HN : Hid (AheadTo D t i hi (n + 1) (te : Int) (q : Int)) := by
            show AheadTo _ _ _ _ _ _ _
            rw [HTE.out, HQ.out, HTE.out]
            exact HA.out.take HS.out (.inl (by rw [← HTE.out, ← HQ.out]; exact h1))
          go_wp2_with fail
          go_roundw
          case rel => exact ⟨n + 1, te, q, by omega, by go_num, rfl, rfl, HN.out, rfl⟩
          case measure => simp [intOf]; omega
        · by_cases h2 : (q : Int) = b'
          · by_cases h3 : a' < (te : Int)
            · have HN : Hid (AheadTo D t i hi (n + 1) (te : Int) (q : Int)) := by
                show AheadTo _ _ _ _ _ _ _
                rw [HTE.out, HQ.out, HTE.out]
                exact HA.out.take HS.out (.inr ⟨by rw [← HTE.out, ← HQ.out]; exact h2.symm, by rw [← HTE.out]; exact h3⟩)
              have h2' : ((q : Int) == b') = true := by simp [h2]
              clear HA
              subst h2
              go_wp2_with fail
              go_roundw
              case rel => exact ⟨n + 1, te, q, by omega, by go_num, rfl, rfl, HN.out, rfl⟩
              case measure => simp [intOf]; omega
            · have HN : Hid (AheadTo D t i hi (n + 1) a' b') := by
                show AheadTo _ _ _ _ _ _ _
                exact HA.out.keep HS.out (by rw [← HTE.out, ← HQ.out]; omega)
              clear HA
              subst h2
              go_wp2_with fail
              go_roundw
              case rel => exact ⟨n + 1, a', q, by omega, by go_num, rfl, rfl, HN.out, rfl⟩
              case measure => simp [intOf]; omega
          · have HN : Hid (AheadTo D t i hi (n + 1) a' b') := by
              show AheadTo _ _ _ _ _ _ _
              exact HA.out.keep HS.out (by rw [← HTE.out, ← HQ.out]; omega)
            have h2' : ((q : Int) == b') = false := by simp [h2]
            go_wp2_with fail
            go_roundw
            case rel => exact ⟨n + 1, a', b', by omega, by go_num, rfl, rfl, HN.out, rfl⟩
            case measure => simp [intOf]; omega
      · have hd : decide (Stands t i (wd D n)) = false := decide_eq_false hs
        have HN : Hid (AheadTo D t i hi (n + 1) a' b') := HA.out.skip hs
        clear hs hA
        go_wp2_with fail
        refine (stands_any _ B D _ _ HB.out HD.out t i n ht hits hlt).mono ?_
        rintro e w' ⟨rfl, rfl⟩
        rw [hd]
        go_wp2_with fail
        go_roundw
        case rel => exact ⟨n + 1, a', b', by omega, by go_num, rfl, rfl, HN.out, rfl⟩
        case measure => simp [intOf]; omega
    · obtain rfl : n = D.length := by omega
      rcases hA with ⟨hA, rfl, rfl⟩ | ⟨e, hA, rfl, rfl⟩
      · have HNo : Hid (¬ AnyAt D t i) := fun ⟨k, h1, h2⟩ => hA k h1 h2
        clear hA HA
        go_wp2_with fail
        go_loopg [9] (hi - (i + 1)) (fun g a wx => NextRel D t i hi g wr a wx)
        case atStart => exact ⟨i + 1, rfl, by omega, by omega, by go_num, fun j a b => by omega, rfl⟩
        case round =>
          obtain ⟨p, rfl, hp1, hp2, rfl, hp3, rfl⟩ := hrel
          have HP : Hid (∀ j, i < j → j < p → ¬ AnyAt D t j) := hp3
          clear hp3
          have hpts : p ≤ t.size := by omega
          by_cases hph : p < hi
          · have hph' : (p : Int) < (hi : Int) := by omega
            go_wp2_with fail
            go_loopg [15] D.length (fun g x wx => NoneRel D t p g wr x wx)
            case atStart => exact ⟨0, rfl, by omega, rfl, fun k hk => by omega, rfl⟩
            case round =>
              obtain ⟨n, rfl, hn, rfl, hno, rfl⟩ := hrel
              have HN : Hid (∀ k, k < n → ¬ Stands t p (wd D k)) := hno
              clear hno
              by_cases hlt2 : n < D.length
              · have hlt2' : (n : Int) < (D.length : Int) := by omega
                by_cases hs : Stands t p (wd D n)
                · have hd : decide (Stands t p (wd D n)) = true := decide_eq_true hs
                  have HS : Hid (AnyAt D t p) := ⟨n, hlt2, hs⟩
                  clear hs
                  go_wp2_with fail
                  refine (stands_any _ B D _ _ HB.out HD.out t p n ht hpts hlt2).mono ?_
                  rintro e w' ⟨rfl, rfl⟩
                  rw [hd]
                  go_wp2_with fail
                  go_ret
                  exact ⟨⟨p, rfl, .inr ⟨HNo.out, hp1, hp2, .inr HS.out, HP.out⟩⟩, rfl⟩
                · have hd : decide (Stands t p (wd D n)) = false := decide_eq_false hs
                  have HN2 : Hid (∀ k, k < n + 1 → ¬ Stands t p (wd D k)) := fun k hk => by
                    by_cases e : k = n
                    · subst e; exact hs
                    · exact HN.out k (by omega)
                  clear hs
                  go_wp2_with fail
                  refine (stands_any _ B D _ _ HB.out HD.out t p n ht hpts hlt2).mono ?_
                  rintro e w' ⟨rfl, rfl⟩
                  rw [hd]
                  go_wp2_with fail
                  go_roundg (D.length - (n + 1))
                  case measure => omega
                  case rel => exact ⟨n + 1, rfl, by omega, by go_num, HN2.out, rfl⟩
              · obtain rfl : n = D.length := by omega
                have HP2 : Hid (∀ j, i < j → j < p + 1 → ¬ AnyAt D t j) := fun j h1 h2 => by
                  by_cases e : j = p
                  · subst e; exact fun ⟨k, a, b⟩ => HN.out k a b
                  · exact HP.out j h1 (by omega)
                go_wp2_with fail
                go_roundg (hi - (p + 1))
                case measure => omega
                case rel => exact ⟨p + 1, rfl, by omega, by omega, by go_num, HP2.out, rfl⟩
          · obtain rfl : p = hi := by omega
            go_wp2_with fail
            go_ret
            exact ⟨⟨p, rfl, .inr ⟨HNo.out, hp1, hp2, .inl rfl, HP.out⟩⟩, rfl⟩
      · have HE : Hid (BestAhead D t i hi D.length e) := hA
        have he0 : (0 : Int) ≤ (e : Int) := by omega
        clear hA HA
        go_wp2
        go_ret
        exact ⟨⟨e, rfl, .inl HE.out⟩, rfl⟩

end Go.Proofs.Ytlfpepehngkehaa
