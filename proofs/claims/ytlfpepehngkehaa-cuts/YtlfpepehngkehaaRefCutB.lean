/-
  Walks: the reference: does a word stand; which list is less; how far a row goes.
-/
import Derived.Test.YtlfpepehngkehaaRefCutA
import Derived.Test.YtlfpepehngkehaaMaths
namespace Go.Proofs.Ytlfpepehngkehaa
set_option linter.unusedSimpArgs false
set_option linter.unusedVariables false
open Go.RowKit

theorem BookAt.word {w : World} {B : Nat} {D : Dic} {Wv Cv : Value} (h : BookAt w B D Wv Cv) {k : Nat} (hk : k < D.length) :
    ∃ gw gc capw capc, Wv = .slice (some ⟨gw, 0, none⟩) D.length capw ∧ Cv = .slice (some ⟨gc, 0, none⟩) D.length capc ∧ w.cell? ⟨B, 0, none⟩ = some (.slice (some ⟨gw, 0, none⟩) D.length capw) ∧ w.cell? ⟨B, 1, none⟩ = some (.slice (some ⟨gc, 0, none⟩) D.length capc) ∧
      w.cell? ⟨gw, k, none⟩ = some (.string (wd D k)) ∧ w.cell? ⟨gc, k, none⟩ = some (.int .i64 (ct D k)) := by
  have hDn : D.length ≠ 0 := by omega
  obtain ⟨gw, capw, rfl, _⟩ := row_shape h.ow hDn
  obtain ⟨gc, capc, rfl, _⟩ := row_shape h.oc hDn
  have hw0 := own_str h.ow (by simp) (k := k) (by simpa using hk)
  have hc0 := own_int h.oc (by simp) (k := k) (by simpa using hk)
  simp only [List.getElem_map] at hw0 hc0
  rw [wd_eq hk, ct_eq hk]
  exact ⟨gw, gc, capw, capc, rfl, rfl, h.c0, h.c1, hw0, hc0⟩

set_option maxHeartbeats 2000000 in
theorem stands_any (w : World) (B : Nat) (D : Dic) (Wv Cv : Value) (hB : BookAt w B D Wv Cv) (hD : Small D) (t : ByteArray) (i k : Nat) (ht : t.size ≤ 500) (hi : i ≤ t.size) (hk : k < D.length) :
    Calls Try.prog 102 #[.pointer (some ⟨B, 0, none⟩), .string t, .int .i64 i, .int .i64 k] w fun e w' => e = .returned (.bool (decide (Stands t i (wd D k)))) ∧ w' = w := by
  obtain ⟨gw, gc, capw, capc, rfl, rfl, hb0, _, hw0, _⟩ := hB.word hk
  obtain ⟨hx1, hx2, _⟩ := hD.at hk
  have hD150 := hD.1
  obtain ⟨x, hx⟩ : ∃ x, x = wd D k := ⟨_, rfl⟩
  rw [← hx] at hw0 hx1 hx2 ⊢
  clear hx hB hD
  have hki : (k : Int) < (D.length : Int) := by omega
  obtain ⟨r, hr⟩ : ∃ r, r = decide (Stands t i x) := ⟨_, rfl⟩
  rw [← hr]
  have HR : Hid (r = decide (Stands t i x)) := hr
  clear hr
  obtain ⟨te, hto⟩ : ∃ te, te = i + x.size := ⟨_, rfl⟩
  have hto' : (i : Int) + (x.size : Int) = (te : Int) := by omega
  have HTO : Hid (te = i + x.size) := hto
  have hwt : IntKind.i64.wrap (te : Int) = (te : Int) := by rw [IntKind.wrap_i64]; omega
  have hit : i ≤ te := by omega
  have hti : te - i = x.size := by omega
  have hit' : (i : Int) ≤ (te : Int) := by omega
  go_enter Try.func102, Try.ntmps102
  by_cases h1 : Edge t i
  · have d1 : decide (Edge t i) = true := decide_eq_true h1
    by_cases h2 : te ≤ t.size
    · have h2' : (te : Int) ≤ (t.size : Int) := by omega
      by_cases h3 : t.extract i te = x
      · have h3' : ((t.extract i te).toList == x.toList) = true := by rw [h3]; simp
        by_cases h4 : Edge t te
        · have d4 : decide (Edge t te) = true := decide_eq_true h4
          have hr : r = true := by rw [HR.out]; exact decide_eq_true ⟨h1, by omega, by rw [← hto]; exact h3, by rw [← hto]; exact h4⟩
          subst hr
          clear h1 h3 h4 hto
          go_wp2_with fail
          refine (edge_any t _ _ ht hi).mono ?_
          rintro e w' ⟨rfl, rfl⟩
          rw [d1]
          go_wp2_with fail
          refine (edge_any t te _ ht h2).mono ?_
          rintro e w' ⟨rfl, rfl⟩
          rw [d4]
          go_wp2
          go_ret
          exact ⟨rfl, rfl⟩
        · have d4 : decide (Edge t te) = false := decide_eq_false h4
          have hr : r = false := by rw [HR.out]; exact decide_eq_false fun h => h4 (by rw [hto]; exact h.2.2.2)
          subst hr
          clear h1 h3 h4 hto
          go_wp2_with fail
          refine (edge_any t _ _ ht hi).mono ?_
          rintro e w' ⟨rfl, rfl⟩
          rw [d1]
          go_wp2_with fail
          refine (edge_any t te _ ht h2).mono ?_
          rintro e w' ⟨rfl, rfl⟩
          rw [d4]
          go_wp2
          go_ret
          exact ⟨rfl, rfl⟩
      · have h3' : ((t.extract i te).toList == x.toList) = false := beq_eq_false_iff_ne.2 fun e => h3 (ba_ext e)
        have hr : r = false := by rw [HR.out]; exact decide_eq_false fun h => h3 (by rw [hto]; exact h.2.2.1)
        subst hr
        clear h1 h3 hto
        go_wp2_with fail
        refine (edge_any t _ _ ht hi).mono ?_
        rintro e w' ⟨rfl, rfl⟩
        rw [d1]
        go_wp2
        go_ret
        exact ⟨rfl, rfl⟩
    · have h2' : ¬ (te : Int) ≤ (t.size : Int) := by omega
      have hr : r = false := by rw [HR.out]; exact decide_eq_false fun h => h2 (by rw [hto]; exact h.2.1)
      subst hr
      clear h1 hto
      go_wp2_with fail
      refine (edge_any t _ _ ht hi).mono ?_
      rintro e w' ⟨rfl, rfl⟩
      rw [d1]
      go_wp2
      go_ret
      exact ⟨rfl, rfl⟩
  · have d1 : decide (Edge t i) = false := decide_eq_false h1
    have hr : r = false := by rw [HR.out]; exact decide_eq_false fun h => h1 h.1
    subst hr
    clear h1 hto
    go_wp2_with fail
    refine (edge_any t _ _ ht hi).mono ?_
    rintro e w' ⟨rfl, rfl⟩
    rw [d1]
    go_wp2
    go_ret
    exact ⟨rfl, rfl⟩

set_option maxHeartbeats 1000000 in
theorem less_any (w : World) (B1 B2 : Nat) (v1 v2 : Value) (L1 L2 : List Nat) (h1 : w.ownsRow B1 3 1 v1 L1.length (intCells L1)) (h2 : w.ownsRow B2 3 1 v2 L2.length (intCells L2)) (hn1 : L1.length ≤ 1000) (hn2 : L2.length ≤ 1000) :
    Calls Try.prog 115 #[v1, v2] w fun e w' => e = .returned (.bool (llt L1 L2)) ∧ Same w w' := by
  obtain ⟨a1, c1, rfl, hg1⟩ := row_form h1
  obtain ⟨a2, c2, rfl, hg2⟩ := row_form h2
  obtain ⟨r, hr⟩ : ∃ r, r = llt L1 L2 := ⟨_, rfl⟩
  rw [← hr]
  have HR : Hid (r = llt L1 L2) := hr
  clear hr
  go_enter Try.func115, Try.ntmps115
  go_wp2_with fail
  go_loopw [5] (fun x wr => ∃ i : Nat, i ≤ L1.length ∧ i ≤ L2.length ∧ x = .int .i64 i ∧ r = llt (L1.drop i) (L2.drop i) ∧ Same w wr) (fun x _ => L1.length - (intOf x).toNat)
  case atStart => exact ⟨0, by omega, by omega, rfl, HR.out, Same.refl _⟩
  case round =>
    obtain ⟨i, hi1, hi2, rfl, hrr, hsame⟩ := hrel
    have HRR : Hid (r = llt (L1.drop i) (L2.drop i)) := hrr
    clear hrr
    by_cases l1 : i < L1.length
    · have l1' : (i : Int) < (L1.length : Int) := by omega
      by_cases l2 : i < L2.length
      · have l2' : (i : Int) < (L2.length : Int) := by omega
        obtain ⟨g1, rfl⟩ := hg1 (by omega)
        obtain ⟨g2, rfl⟩ := hg2 (by omega)
        have hx := own_int (hsame.row h1) rfl l1
        have hy := own_int (hsame.row h2) rfl l2
        obtain ⟨a, ha⟩ : ∃ a, a = L1[i] := ⟨_, rfl⟩
        obtain ⟨b, hb⟩ : ∃ b, b = L2[i] := ⟨_, rfl⟩
        rw [← ha] at hx
        rw [← hb] at hy
        have HA : Hid (a = L1[i]) := ha
        have HB : Hid (b = L2[i]) := hb
        clear h1 h2 ha hb
        by_cases hab : a = b
        · have hab' : ((a : Int) != (b : Int)) = false := by simp; omega
          have HN : Hid (r = llt (L1.drop (i + 1)) (L2.drop (i + 1))) := by show _ = _; rw [HRR.out]; exact llt_drop l1 l2 (by rw [← HA.out, ← HB.out]; exact hab)
          clear hab
          go_wp2_with fail
          go_quiet (fail)
          go_wp2_with fail
          go_roundw
          case rel => exact ⟨i + 1, by omega, by omega, by go_num, HN.out, Kept.drewN hsame _⟩
          case measure => simp [intOf]; omega
        · have hab' : ((a : Int) != (b : Int)) = true := by simp; omega
          have HN : Hid (r = decide ((a : Int) < (b : Int))) := by
            show _ = _
            rw [HRR.out, llt_ne l1 l2 (by rw [← HA.out, ← HB.out]; exact hab), ← HA.out, ← HB.out, decide_eq_decide]
            omega
          clear hab
          by_cases hl : (a : Int) < (b : Int)
          all_goals
            go_wp2_with fail
            go_quiet (fail)
            go_wp2_with fail
            go_quiet (fail)
            go_wp2_with fail
            go_ret
            exact ⟨by rw [HN.out]; simp [hl], Kept.drewN (Kept.drewN hsame _) _⟩
      · have l2' : ¬ (i : Int) < (L2.length : Int) := by omega
        have HN : Hid (r = decide (L1.length < L2.length)) := by
          show _ = _
          rw [HRR.out, llt_end (.inr (by omega)) hi1 hi2]
        clear h1 h2
        go_wp2_with fail
        go_ret
        exact ⟨by rw [HN.out]; rfl, hsame⟩
    · have l1' : ¬ (i : Int) < (L1.length : Int) := by omega
      have HN : Hid (r = decide (L1.length < L2.length)) := by
        show _ = _
        rw [HRR.out, llt_end (.inl (by omega)) hi1 hi2]
      clear h1 h2
      go_wp2_with fail
      go_ret
      exact ⟨by rw [HN.out]; rfl, hsame⟩

end Go.Proofs.Ytlfpepehngkehaa
