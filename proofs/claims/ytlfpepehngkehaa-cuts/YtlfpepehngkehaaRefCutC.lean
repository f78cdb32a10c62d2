/-
  Walks: the reference: rows of words, where a piece of capitals ends.
-/
import Derived.Test.YtlfpepehngkehaaRefCutB
namespace Go.Proofs.Ytlfpepehngkehaa
set_option linter.unusedSimpArgs false
set_option linter.unusedVariables false
open Go.RowKit

def RowRel (D : Dic) (t : ByteArray) (hi n te : Nat) (w : World) (f x : Value) (wr : World) : Prop :=
  ∃ j m : Nat, j ≤ D.length ∧ x = .int .i64 j ∧ f = .int .i64 m ∧ m = rowTo (rch D t hi n) D t te j ∧ wr = w

set_option maxHeartbeats 2000000 in
theorem row_any (w : World) (B : Nat) (D : Dic) (Wv Cv : Value) (hB : BookAt w B D Wv Cv) (hD : Small D) (t : ByteArray) (ht : t.size ≤ 500) (hi : Nat) (hhi : hi ≤ t.size) : ∀ (n : Nat), n ≤ 2 → ∀ (i k : Nat), k < D.length → Stands t i (wd D k) →
    Calls Try.prog 103 #[.pointer (some ⟨B, 0, none⟩), .string t, .int .i64 i, .int .i64 k, .int .i64 n, .int .i64 hi] w fun e w' => e = .returned (.int .i64 (rch D t hi n (i + (wd D k).size))) ∧ w' = w := by
  intro n
  induction n with
  | zero =>
    intro _ i k hk hst
    obtain ⟨gw, gc, capw, capc, rfl, rfl, hb0, _, hw0, _⟩ := hB.word hk
    obtain ⟨hx1, hx2, _⟩ := hD.at hk
    have hD150 := hD.1
    have hle := hst.2.1
    obtain ⟨x, hx⟩ : ∃ x, x = wd D k := ⟨_, rfl⟩
    rw [← hx] at hw0 hx1 hx2 hle ⊢
    clear hx hB hD hst
    have hki : (k : Int) < (D.length : Int) := by omega
    obtain ⟨te, hte⟩ : ∃ te, te = i + x.size := ⟨_, rfl⟩
    have hte' : (i : Int) + (x.size : Int) = (te : Int) := by omega
    have hwt : IntKind.i64.wrap (te : Int) = (te : Int) := by rw [IntKind.wrap_i64]; omega
    rw [← hte]
    clear hte
    simp only [rch]
    go_enter Try.func103, Try.ntmps103
    go_wp2_with fail
    go_loopw [14, 15] (fun f x wr => f = .int .i64 te ∧ x = .int .i64 0 ∧ wr = w) (fun _ _ _ => 0)
    case atStart => exact ⟨rfl, rfl, rfl⟩
    case round =>
      obtain ⟨rfl, rfl, rfl⟩ := hrel
      go_wp2
      all_goals
        go_ret
        exact ⟨rfl, rfl⟩
  | succ n ih =>
    intro hn2 i k hk hst
    have ih := ih (by omega)
    have HIH : Hid (∀ (i k : Nat), k < D.length → Stands t i (wd D k) → Calls Try.prog 103 #[.pointer (some ⟨B, 0, none⟩), .string t, .int .i64 i, .int .i64 k, .int .i64 n, .int .i64 hi] w fun e w' => e = .returned (.int .i64 (rch D t hi n (i + (wd D k).size))) ∧ w' = w) := ih
    clear ih
    obtain ⟨gw, gc, capw, capc, rfl, rfl, hb0, _, hw0, _⟩ := hB.word hk
    have HB : Hid (BookAt w B D (.slice (some ⟨gw, 0, none⟩) D.length capw) (.slice (some ⟨gc, 0, none⟩) D.length capc)) := hB
    have HD : Hid (Small D) := hD
    obtain ⟨hx1, hx2, _⟩ := hD.at hk
    have hD150 := hD.1
    have hle := hst.2.1
    have hki : (k : Int) < (D.length : Int) := by omega
    obtain ⟨x, hx⟩ : ∃ x, x = wd D k := ⟨_, rfl⟩
    rw [← hx] at hw0 hx1 hx2 hle ⊢
    clear hx hB hD hst
    obtain ⟨te, hte⟩ : ∃ te, te = i + x.size := ⟨_, rfl⟩
    have hte' : (i : Int) + (x.size : Int) = (te : Int) := by omega
    have hts : te ≤ t.size := by omega
    have hwt : IntKind.i64.wrap (te : Int) = (te : Int) := by rw [IntKind.wrap_i64]; omega
    rw [← hte]
    clear hte hle
    have hwn : IntKind.i64.wrap (n : Int) = (n : Int) := by rw [IntKind.wrap_i64]; omega
    obtain ⟨R, hR⟩ : ∃ R, R = rch D t hi (n + 1) te := ⟨_, rfl⟩
    rw [← hR]
    have HR : Hid (R = rch D t hi (n + 1) te) := hR
    clear hR
    obtain ⟨N, hN⟩ : ∃ N, N = n + 1 := ⟨_, rfl⟩
    rw [← hN]
    have hn1 : (N : Int) - 1 = n := by omega
    have hn0 : (0 : Int) < (N : Int) := by omega
    clear hN
    go_enter Try.func103, Try.ntmps103
    by_cases hlt : te < hi
    · have hlt' : (te : Int) < (hi : Int) := by omega
      have HR2 : Hid (R = rowTo (rch D t hi n) D t te D.length) := by show _ = _; rw [HR.out]; simp only [rch]; rw [if_pos hlt]
      clear HR
      go_wp2_with fail
      go_loopw [14, 15] (fun f x wr => RowRel D t hi n te w f x wr) (fun _ x _ => D.length - (intOf x).toNat)
      case atStart => exact ⟨0, te, by omega, rfl, rfl, rfl, rfl⟩
      case round =>
        obtain ⟨j, m, hj, rfl, rfl, hm, rfl⟩ := hrel
        have HM : Hid (m = rowTo (rch D t hi n) D t te j) := hm
        clear hm
        by_cases hjl : j < D.length
        · have hjl' : (j : Int) < (D.length : Int) := by omega
          by_cases hs : Stands t te (wd D j)
          · have hd : decide (Stands t te (wd D j)) = true := decide_eq_true hs
            have HS : Hid (Stands t te (wd D j)) := hs
            obtain ⟨q, hq⟩ : ∃ q, q = rch D t hi n (te + (wd D j).size) := ⟨_, rfl⟩
            have HQ : Hid (q = rch D t hi n (te + (wd D j).size)) := hq
            have HN : Hid (rowTo (rch D t hi n) D t te (j + 1) = max m q) := by show _ = _; simp only [rowTo]; rw [if_pos hs, ← HM.out, ← hq]
            clear hs hq
            go_wp2_with fail
            refine (stands_any _ B D _ _ HB.out HD.out t te j ht hts hjl).mono ?_
            rintro e w' ⟨rfl, rfl⟩
            rw [hd]
            go_wp2_with fail
            refine (HIH.out te j hjl HS.out).mono ?_
            rintro e w' ⟨rfl, rfl⟩
            rw [← HQ.out]
            by_cases hmq : m < q
            · have hmq' : (m : Int) < (q : Int) := by omega
              go_wp2_with fail
              go_roundw
              case rel => unfold RowRel; exact ⟨j + 1, q, by omega, by go_num, rfl, by rw [HN.out]; omega, rfl⟩
              case measure => simp [intOf]; omega
            · have hmq' : ¬ (m : Int) < (q : Int) := by omega
              go_wp2_with fail
              go_roundw
              case rel => unfold RowRel; exact ⟨j + 1, m, by omega, by go_num, rfl, by rw [HN.out]; omega, rfl⟩
              case measure => simp [intOf]; omega
          · have hd : decide (Stands t te (wd D j)) = false := decide_eq_false hs
            have HN : Hid (rowTo (rch D t hi n) D t te (j + 1) = m) := by show _ = _; simp only [rowTo]; rw [if_neg hs, ← HM.out]
            clear hs
            go_wp2_with fail
            refine (stands_any _ B D _ _ HB.out HD.out t te j ht hts hjl).mono ?_
            rintro e w' ⟨rfl, rfl⟩
            rw [hd]
            go_wp2_with fail
            go_roundw
            case rel => unfold RowRel; exact ⟨j + 1, m, by omega, by go_num, rfl, HN.out.symm, rfl⟩
            case measure => simp [intOf]; omega
        · obtain rfl : j = D.length := by omega
          have hr : m = R := by rw [HM.out, HR2.out]
          subst hr
          clear HR2
          go_wp2
          go_ret
          exact ⟨rfl, rfl⟩
    · have hlt' : ¬ (te : Int) < (hi : Int) := by omega
      have hr : R = te := by rw [HR.out]; simp only [rch]; rw [if_neg hlt]
      subst hr
      clear HR
      go_wp2_with fail
      go_loopw [14, 15] (fun f x wr => f = .int .i64 R ∧ x = .int .i64 0 ∧ wr = w) (fun _ _ _ => 0)
      case atStart => exact ⟨rfl, rfl, rfl⟩
      case round =>
        obtain ⟨rfl, rfl, rfl⟩ := hrel
        go_wp2
        all_goals
          go_ret
          exact ⟨rfl, rfl⟩

end Go.Proofs.Ytlfpepehngkehaa
