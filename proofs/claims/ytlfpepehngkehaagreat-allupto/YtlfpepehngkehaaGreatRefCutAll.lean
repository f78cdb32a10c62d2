import Derived.Test.YtlfpepehngkehaaGreatFormA
import Derived.Test.YtlfpepehngkehaaGreatBookW
import Derived.Test.YtlfpepehngkehaaGreatMaths
import Derived.BigQuiet
import Derived.Deep.QuietTactic
import Derived.Deep.LoopGhost
import Derived.Test.YtlfpepehngkehaaGreatRefEntries
import Derived.Laws.AppendOwnNone
import Derived.Deep.DeepCutAuto
import Derived.OwnWalk
import Derived.Deep.RegionWith
/-
  Walks: the reference's leaves of cutting.
-/
namespace Go.Proofs.YtlfpepehngkehaaGreat
set_option linter.unusedSimpArgs false
set_option linter.unusedVariables false
open Go.RowKit

theorem smB_s {c : Nat} : smB c = true ↔ sortC c = 115 := by rw [sortC_s]; exact smB_iff
theorem cpB_c {c : Nat} : cpB c = true ↔ sortC c = 99 := by rw [sortC_c]; exact cpB_iff

set_option maxHeartbeats 1000000 in
theorem sort_any (c : Nat) (w : World) (hc : c < 256) :
    Calls Tryz.prog 79 #[.int .u8 c] w fun e w' => e = .returned (.int .u8 (sortC c)) ∧ w' = w := by
  obtain ⟨r, hr⟩ : ∃ r, r = sortC c := ⟨_, rfl⟩
  rw [← hr]
  have HR : Hid (r = sortC c) := hr
  clear hr
  cases h1 : smB c
  · cases h2 : cpB c
    · cases h3 : dgB c
      · by_cases h4 : c = 32
        · subst h4
          have : r = 98 := HR.out
          subst this
          go_enter Tryz.func79, Tryz.ntmps79
          go_wp2_with (first | (go_at_call 66; refine (smallB _ _ hc).mono ?_; rintro e w' ⟨rfl, rfl⟩) | (go_at_call 67; refine (capitalB _ _ hc).mono ?_; rintro e w' ⟨rfl, rfl⟩) | (go_at_call 69; refine (digitB _ _ hc).mono ?_; rintro e w' ⟨rfl, rfl⟩))
          go_ret
          exact ⟨rfl, rfl⟩
        · have h4' : ((c : Int) == 32) = false := by simp; omega
          have : r = 111 := by
            rw [HR.out]
            have a1 : ¬ (97 ≤ c ∧ c ≤ 122) := fun h => by rw [smB_iff.2 h] at h1; cases h1
            have a2 : ¬ (65 ≤ c ∧ c ≤ 90) := fun h => by rw [cpB_iff.2 h] at h2; cases h2
            have a3 : ¬ (48 ≤ c ∧ c ≤ 57) := fun h => by rw [dgB_iff.2 h] at h3; cases h3
            simp [sortC, a1, a2, a3, h4]
          subst this
          go_enter Tryz.func79, Tryz.ntmps79
          go_wp2_with (first | (go_at_call 66; refine (smallB _ _ hc).mono ?_; rintro e w' ⟨rfl, rfl⟩) | (go_at_call 67; refine (capitalB _ _ hc).mono ?_; rintro e w' ⟨rfl, rfl⟩) | (go_at_call 69; refine (digitB _ _ hc).mono ?_; rintro e w' ⟨rfl, rfl⟩))
          go_ret
          exact ⟨rfl, rfl⟩
      · have : r = 100 := by rw [HR.out, sortC_d]; exact dgB_iff.1 h3
        subst this
        go_enter Tryz.func79, Tryz.ntmps79
        go_wp2_with (first | (go_at_call 66; refine (smallB _ _ hc).mono ?_; rintro e w' ⟨rfl, rfl⟩) | (go_at_call 67; refine (capitalB _ _ hc).mono ?_; rintro e w' ⟨rfl, rfl⟩) | (go_at_call 69; refine (digitB _ _ hc).mono ?_; rintro e w' ⟨rfl, rfl⟩))
        go_ret
        exact ⟨rfl, rfl⟩
    · have : r = 99 := by rw [HR.out, sortC_c]; exact cpB_iff.1 h2
      subst this
      go_enter Tryz.func79, Tryz.ntmps79
      go_wp2_with (first | (go_at_call 66; refine (smallB _ _ hc).mono ?_; rintro e w' ⟨rfl, rfl⟩) | (go_at_call 67; refine (capitalB _ _ hc).mono ?_; rintro e w' ⟨rfl, rfl⟩) | (go_at_call 69; refine (digitB _ _ hc).mono ?_; rintro e w' ⟨rfl, rfl⟩))
      go_ret
      exact ⟨rfl, rfl⟩
  · have : r = 115 := by rw [HR.out, sortC_s]; exact smB_iff.1 h1
    subst this
    go_enter Tryz.func79, Tryz.ntmps79
    go_wp2_with (first | (go_at_call 66; refine (smallB _ _ hc).mono ?_; rintro e w' ⟨rfl, rfl⟩) | (go_at_call 67; refine (capitalB _ _ hc).mono ?_; rintro e w' ⟨rfl, rfl⟩) | (go_at_call 69; refine (digitB _ _ hc).mono ?_; rintro e w' ⟨rfl, rfl⟩))
    go_ret
    exact ⟨rfl, rfl⟩

set_option maxHeartbeats 1000000 in
theorem edge_any (t : ByteArray) (i : Nat) (w : World) (ht : t.size ≤ 500) (hi : i ≤ t.size) :
    Calls Tryz.prog 98 #[.string t, .int .i64 i] w fun e w' => e = .returned (.bool (decide (Edge t i))) ∧ w' = w := by
  obtain ⟨r, hr⟩ : ∃ r, r = decide (Edge t i) := ⟨_, rfl⟩
  rw [← hr]
  by_cases h0 : i = 0
  · subst h0
    rw [decide_eq_true (edge_zero t)] at hr
    subst hr
    go_enter Tryz.func98, Tryz.ntmps98
    go_wp2
    go_ret
    exact ⟨rfl, rfl⟩
  · by_cases h1 : i = t.size
    · subst h1
      rw [decide_eq_true (edge_end t)] at hr
      subst hr
      have h0' : ((t.size : Int) == 0) = false := by simp only [beq_eq_false_iff_ne]; omega
      clear hi h0
      go_enter Tryz.func98, Tryz.ntmps98
      go_wp2
      go_ret
      exact ⟨rfl, rfl⟩
    · have hlt : i < t.size := by omega
      have hbt := bt_get t i hlt
      have h0' : ((i : Int) == 0) = false := by simp only [beq_eq_false_iff_ne]; omega
      have h1' : ((i : Int) == (t.size : Int)) = false := by simp only [beq_eq_false_iff_ne]; omega
      by_cases h2 : bt t i = 126
      · rw [decide_eq_false (fun h => by rcases h with h | h | h; exact h0 h; exact h1 h; exact h h2)] at hr
        subst hr
        rw [h2] at hbt
        clear h2
        go_enter Tryz.func98, Tryz.ntmps98
        go_wp2
        go_ret
        exact ⟨rfl, rfl⟩
      · rw [decide_eq_true (.inr (.inr h2))] at hr
        subst hr
        have h2' : ((bt t i : Int) != 126) = true := by simp; omega
        go_enter Tryz.func98, Tryz.ntmps98
        go_wp2
        go_ret
        exact ⟨rfl, rfl⟩

set_option maxHeartbeats 1000000 in
theorem first_any (t : ByteArray) (i : Nat) (w : World) (ht : t.size ≤ 500) (hi : i ≤ t.size) :
    Calls Tryz.prog 99 #[.string t, .int .i64 i] w fun e w' => e = .returned (.int .i64 (frst t i)) ∧ w' = w := by
  go_enter Tryz.func99, Tryz.ntmps99
  go_wp2_with fail
  go_loopw [1] (fun x wr => ∃ k : Nat, k ≤ i ∧ x = .int .i64 k ∧ frst t k = frst t i ∧ wr = w) (fun x _ => (intOf x).toNat)
  case atStart => exact ⟨i, Nat.le_refl _, rfl, rfl, rfl⟩
  case round =>
    obtain ⟨k, hk, rfl, hf, rfl⟩ := hrel
    have HF : Hid (frst t k = frst t i) := hf
    clear hf
    by_cases he : Edge t k
    · have HE := frst_edge he
      rw [HF.out] at HE
      have hd : decide (Edge t k) = true := decide_eq_true he
      have HR : Hid (frst t i = k) := HE
      clear he HE
      go_wp2_with fail
      refine (edge_any t k _ ht (by omega)).mono ?_
      rintro e w' ⟨rfl, rfl⟩
      rw [hd]
      go_wp2_with fail
      go_ret
      exact ⟨by rw [HR.out]; rfl, rfl⟩
    · obtain ⟨h1, h2⟩ := frst_pred he
      have hd : decide (Edge t k) = false := decide_eq_false he
      have HR : Hid (frst t (k - 1) = frst t i) := by show _ = _; rw [← h2, HF.out]
      clear he h2
      go_wp2_with fail
      refine (edge_any t k _ ht (by omega)).mono ?_
      rintro e w' ⟨rfl, rfl⟩
      rw [hd]
      go_wp2_with fail
      go_roundw
      case rel => exact ⟨k - 1, by omega, by go_num, HR.out, by trivial⟩
      case measure => simp [intOf]; omega

set_option maxHeartbeats 1000000 in
theorem parts_any (t : ByteArray) (i : Nat) (w : World) (ht : t.size ≤ 500) (hi : i < t.size) (h0 : 0 < i) :
    Calls Tryz.prog 83 #[.string t, .int .i64 i] w fun e w' => e = .returned (.bool (decide (Parts t i))) ∧ w' = w := by
  obtain ⟨r, hr⟩ : ∃ r, r = decide (Parts t i) := ⟨_, rfl⟩
  rw [← hr]
  have HR : Hid (r = decide (Parts t i)) := hr
  clear hr
  go_enter Tryz.func83, Tryz.ntmps83
  by_cases he : Edge t i
  · have hd : decide (Edge t i) = true := decide_eq_true he
    have HP : Hid (r = decide (sortAt t (i - 1) ≠ sortC (bt t i) ∨ sortAt t (i - 1) = 111)) := by
      show _ = _
      rw [HR.out, decide_eq_decide]
      exact ⟨fun h => h.2, fun h => ⟨he, h⟩⟩
    obtain ⟨j, hj⟩ : ∃ j, j = i - 1 := ⟨_, rfl⟩
    rw [← hj] at HP
    have hji : (i : Int) - 1 = (j : Int) := by omega
    have hjs : j ≤ t.size := by omega
    have hfl : frst t j ≤ j := frst_le t j
    obtain ⟨f, hf⟩ : ∃ f, f = frst t j := ⟨_, rfl⟩
    rw [← hf] at hfl
    have hfs : f < t.size := by omega
    have hbf := bt_get t f hfs
    have hbi := bt_get t i hi
    have hlf := bt_lt t f
    have hli := bt_lt t i
    obtain ⟨a, ha⟩ : ∃ a, a = sortC (bt t f) := ⟨_, rfl⟩
    obtain ⟨b, hb⟩ : ∃ b, b = sortC (bt t i) := ⟨_, rfl⟩
    have hal : a < 256 := by rw [ha]; exact sortC_lt _
    have hbl : b < 256 := by rw [hb]; exact sortC_lt _
    have HP' : Hid (r = decide (a ≠ b ∨ a = 111)) := by
      have := HP.out
      unfold sortAt at this
      rw [← hf, ← ha, ← hb] at this
      exact this
    have hwj : IntKind.i64.wrap (j : Int) = (j : Int) := by rw [IntKind.wrap_i64]; omega
    have HFF : Hid (f = frst t j) := hf
    have HAA : Hid (a = sortC (bt t f)) := ha
    have HBB : Hid (b = sortC (bt t i)) := hb
    clear HP he hf ha hb hj
    go_wp2_with fail
    refine (edge_any t _ _ ht (by omega)).mono ?_
    rintro e w' ⟨rfl, rfl⟩
    rw [hd]
    go_wp2_with fail
    refine (first_any t j _ ht hjs).mono ?_
    rintro e w' ⟨rfl, rfl⟩
    rw [← HFF.out]
    go_wp2_with fail
    refine (sort_any _ _ hlf).mono ?_
    rintro e w' ⟨rfl, rfl⟩
    rw [← HAA.out]
    go_wp2_with fail
    refine (sort_any _ _ hli).mono ?_
    rintro e w' ⟨rfl, rfl⟩
    rw [← HBB.out]
    by_cases hab : a = b
    · have hab' : ((a : Int) != (b : Int)) = false := by simp; omega
      by_cases h111 : a = 111
      · have h1' : ((a : Int) == 111) = true := by simp; omega
        have hr : r = true := by rw [HP'.out]; simp [h111]
        subst hr
        clear hab h111
        go_wp2
        go_ret
        exact ⟨rfl, rfl⟩
      · have h1' : ((a : Int) == 111) = false := by simp; omega
        have hr : r = false := by rw [HP'.out]; simp [h111, hab]; omega
        subst hr
        clear hab h111
        go_wp2
        go_ret
        exact ⟨rfl, rfl⟩
    · have hab' : ((a : Int) != (b : Int)) = true := by simp; omega
      have hr : r = true := by rw [HP'.out]; simp [hab]
      subst hr
      clear hab
      go_wp2
      go_ret
      exact ⟨rfl, rfl⟩
  · have hd : decide (Edge t i) = false := decide_eq_false he
    have : r = false := by rw [HR.out]; exact decide_eq_false fun h => he h.1
    subst this
    go_wp2_with (go_at_call 98; refine (edge_any t _ _ ht (by omega)).mono ?_; rintro e w' ⟨rfl, rfl⟩; rw [hd])
    go_ret
    exact ⟨rfl, rfl⟩

end Go.Proofs.YtlfpepehngkehaaGreat
/-
  Walks: the reference: does a word stand; which list is less; how far a row goes.
-/
namespace Go.Proofs.YtlfpepehngkehaaGreat
set_option linter.unusedSimpArgs false
set_option linter.unusedVariables false
open Go.RowKit

theorem BookAt.word {w : World} {B : Nat} {D : Dic} {Wv Cv : Value} (h : BookAt w B D Wv Cv) {k : Nat} (hk : k < D.length) :
    ∃ gw gc capw capc, Wv = .slice (some ⟨gw, 0, none⟩) D.length capw ∧ Cv = .slice (some ⟨gc, 0, none⟩) D.length capc ∧ w.cell? ⟨B, 0, none⟩ = some (.slice (some ⟨gw, 0, none⟩) D.length capw) ∧ w.cell? ⟨B, 1, none⟩ = some (.slice (some ⟨gc, 0, none⟩) D.length capc) ∧
      w.cell? ⟨gw, k, none⟩ = some (.string (wd D k)) ∧ w.cell? ⟨gc, k, none⟩ = some (.int .i64 (ct D k)) := by
  have hDn : D.length ≠ 0 := by omega
  obtain ⟨gw, capw, rfl, _⟩ := row_shape h.ow hDn
  obtain ⟨gc, capc, rfl, _⟩ := row_shape h.oc hDn
  have hw0 := own_str h.ow (by simp) (k := k) (by simpa using hk)
  have hc0 := own_int h.oc (by simp) (k := k) (by simpa using hk)
  simp only [List.getElem_map] at hw0 hc0
  rw [wd_eq hk, ct_eq hk]
  exact ⟨gw, gc, capw, capc, rfl, rfl, h.c0, h.c1, hw0, hc0⟩

set_option maxHeartbeats 2000000 in
theorem stands_any (w : World) (B : Nat) (D : Dic) (Wv Cv : Value) (hB : BookAt w B D Wv Cv) (hD : Small D) (t : ByteArray) (i k : Nat) (ht : t.size ≤ 500) (hi : i ≤ t.size) (hk : k < D.length) :
    Calls Tryz.prog 101 #[.pointer (some ⟨B, 0, none⟩), .string t, .int .i64 i, .int .i64 k] w fun e w' => e = .returned (.bool (decide (Stands t i (wd D k)))) ∧ w' = w := by
  obtain ⟨gw, gc, capw, capc, rfl, rfl, hb0, _, hw0, _⟩ := hB.word hk
  obtain ⟨hx1, hx2, _⟩ := hD.at hk
  have hD150 := hD.1
  obtain ⟨x, hx⟩ : ∃ x, x = wd D k := ⟨_, rfl⟩
  rw [← hx] at hw0 hx1 hx2 ⊢
  clear hx hB hD
  have hki : (k : Int) < (D.length : Int) := by omega
  obtain ⟨r, hr⟩ : ∃ r, r = decide (Stands t i x) := ⟨_, rfl⟩
  rw [← hr]
  have HR : Hid (r = decide (Stands t i x)) := hr
  clear hr
  obtain ⟨te, hto⟩ : ∃ te, te = i + x.size := ⟨_, rfl⟩
  have hto' : (i : Int) + (x.size : Int) = (te : Int) := by omega
  have HTO : Hid (te = i + x.size) := hto
  have hwt : IntKind.i64.wrap (te : Int) = (te : Int) := by rw [IntKind.wrap_i64]; omega
  have hit : i ≤ te := by omega
  have hti : te - i = x.size := by omega
  have hit' : (i : Int) ≤ (te : Int) := by omega
  go_enter Tryz.func101, Tryz.ntmps101
  by_cases h1 : Edge t i
  · have d1 : decide (Edge t i) = true := decide_eq_true h1
    by_cases h2 : te ≤ t.size
    · have h2' : (te : Int) ≤ (t.size : Int) := by omega
      by_cases h3 : t.extract i te = x
      · have h3' : ((t.extract i te).toList == x.toList) = true := by rw [h3]; simp
        by_cases h4 : Edge t te
        · have d4 : decide (Edge t te) = true := decide_eq_true h4
          have hr : r = true := by rw [HR.out]; exact decide_eq_true ⟨h1, by omega, by rw [← hto]; exact h3, by rw [← hto]; exact h4⟩
          subst hr
          clear h1 h3 h4 hto
          go_wp2_with fail
          refine (edge_any t _ _ ht hi).mono ?_
          rintro e w' ⟨rfl, rfl⟩
          rw [d1]
          go_wp2_with fail
          refine (edge_any t te _ ht h2).mono ?_
          rintro e w' ⟨rfl, rfl⟩
          rw [d4]
          go_wp2
          go_ret
          exact ⟨rfl, rfl⟩
        · have d4 : decide (Edge t te) = false := decide_eq_false h4
          have hr : r = false := by rw [HR.out]; exact decide_eq_false fun h => h4 (by rw [hto]; exact h.2.2.2)
          subst hr
          clear h1 h3 h4 hto
          go_wp2_with fail
          refine (edge_any t _ _ ht hi).mono ?_
          rintro e w' ⟨rfl, rfl⟩
          rw [d1]
          go_wp2_with fail
          refine (edge_any t te _ ht h2).mono ?_
          rintro e w' ⟨rfl, rfl⟩
          rw [d4]
          go_wp2
          go_ret
          exact ⟨rfl, rfl⟩
      · have h3' : ((t.extract i te).toList == x.toList) = false := beq_eq_false_iff_ne.2 fun e => h3 (ba_ext e)
        have hr : r = false := by rw [HR.out]; exact decide_eq_false fun h => h3 (by rw [hto]; exact h.2.2.1)
        subst hr
        clear h1 h3 hto
        go_wp2_with fail
        refine (edge_any t _ _ ht hi).mono ?_
        rintro e w' ⟨rfl, rfl⟩
        rw [d1]
        go_wp2
        go_ret
        exact ⟨rfl, rfl⟩
    · have h2' : ¬ (te : Int) ≤ (t.size : Int) := by omega
      have hr : r = false := by rw [HR.out]; exact decide_eq_false fun h => h2 (by rw [hto]; exact h.2.1)
      subst hr
      clear h1 hto
      go_wp2_with fail
      refine (edge_any t _ _ ht hi).mono ?_
      rintro e w' ⟨rfl, rfl⟩
      rw [d1]
      go_wp2
      go_ret
      exact ⟨rfl, rfl⟩
  · have d1 : decide (Edge t i) = false := decide_eq_false h1
    have hr : r = false := by rw [HR.out]; exact decide_eq_false fun h => h1 h.1
    subst hr
    clear h1 hto
    go_wp2_with fail
    refine (edge_any t _ _ ht hi).mono ?_
    rintro e w' ⟨rfl, rfl⟩
    rw [d1]
    go_wp2
    go_ret
    exact ⟨rfl, rfl⟩

set_option maxHeartbeats 1000000 in
theorem less_any (w : World) (B1 B2 : Nat) (v1 v2 : Value) (L1 L2 : List Nat) (h1 : w.ownsRow B1 3 1 v1 L1.length (intCells L1)) (h2 : w.ownsRow B2 3 1 v2 L2.length (intCells L2)) (hn1 : L1.length ≤ 1000) (hn2 : L2.length ≤ 1000) :
    Calls Tryz.prog 116 #[v1, v2] w fun e w' => e = .returned (.bool (llt L1 L2)) ∧ Same w w' := by
  obtain ⟨a1, c1, rfl, hg1⟩ := row_form h1
  obtain ⟨a2, c2, rfl, hg2⟩ := row_form h2
  obtain ⟨r, hr⟩ : ∃ r, r = llt L1 L2 := ⟨_, rfl⟩
  rw [← hr]
  have HR : Hid (r = llt L1 L2) := hr
  clear hr
  go_enter Tryz.func116, Tryz.ntmps116
  go_wp2_with fail
  go_loopw [5] (fun x wr => ∃ i : Nat, i ≤ L1.length ∧ i ≤ L2.length ∧ x = .int .i64 i ∧ r = llt (L1.drop i) (L2.drop i) ∧ Same w wr) (fun x _ => L1.length - (intOf x).toNat)
  case atStart => exact ⟨0, by omega, by omega, rfl, HR.out, Same.refl _⟩
  case round =>
    obtain ⟨i, hi1, hi2, rfl, hrr, hsame⟩ := hrel
    have HRR : Hid (r = llt (L1.drop i) (L2.drop i)) := hrr
    clear hrr
    by_cases l1 : i < L1.length
    · have l1' : (i : Int) < (L1.length : Int) := by omega
      by_cases l2 : i < L2.length
      · have l2' : (i : Int) < (L2.length : Int) := by omega
        obtain ⟨g1, rfl⟩ := hg1 (by omega)
        obtain ⟨g2, rfl⟩ := hg2 (by omega)
        have hx := own_int (hsame.row h1) rfl l1
        have hy := own_int (hsame.row h2) rfl l2
        obtain ⟨a, ha⟩ : ∃ a, a = L1[i] := ⟨_, rfl⟩
        obtain ⟨b, hb⟩ : ∃ b, b = L2[i] := ⟨_, rfl⟩
        rw [← ha] at hx
        rw [← hb] at hy
        have HA : Hid (a = L1[i]) := ha
        have HB : Hid (b = L2[i]) := hb
        clear h1 h2 ha hb
        by_cases hab : a = b
        · have hab' : ((a : Int) != (b : Int)) = false := by simp; omega
          have HN : Hid (r = llt (L1.drop (i + 1)) (L2.drop (i + 1))) := by show _ = _; rw [HRR.out]; exact llt_drop l1 l2 (by rw [← HA.out, ← HB.out]; exact hab)
          clear hab
          go_wp2_with fail
          go_quiet (fail)
          go_wp2_with fail
          go_roundw
          case rel => exact ⟨i + 1, by omega, by omega, by go_num, HN.out, Kept.drewN hsame _⟩
          case measure => simp [intOf]; omega
        · have hab' : ((a : Int) != (b : Int)) = true := by simp; omega
          have HN : Hid (r = decide ((a : Int) < (b : Int))) := by
            show _ = _
            rw [HRR.out, llt_ne l1 l2 (by rw [← HA.out, ← HB.out]; exact hab), ← HA.out, ← HB.out, decide_eq_decide]
            omega
          clear hab
          by_cases hl : (a : Int) < (b : Int)
          all_goals
            go_wp2_with fail
            go_quiet (fail)
            go_wp2_with fail
            go_quiet (fail)
            go_wp2_with fail
            go_ret
            exact ⟨by rw [HN.out]; simp [hl], Kept.drewN (Kept.drewN hsame _) _⟩
      · have l2' : ¬ (i : Int) < (L2.length : Int) := by omega
        have HN : Hid (r = decide (L1.length < L2.length)) := by
          show _ = _
          rw [HRR.out, llt_end (.inr (by omega)) hi1 hi2]
        clear h1 h2
        go_wp2_with fail
        go_ret
        exact ⟨by rw [HN.out]; rfl, hsame⟩
    · have l1' : ¬ (i : Int) < (L1.length : Int) := by omega
      have HN : Hid (r = decide (L1.length < L2.length)) := by
        show _ = _
        rw [HRR.out, llt_end (.inl (by omega)) hi1 hi2]
      clear h1 h2
      go_wp2_with fail
      go_ret
      exact ⟨by rw [HN.out]; rfl, hsame⟩

end Go.Proofs.YtlfpepehngkehaaGreat
/-
  Walks: the reference: rows of words, where a piece of capitals ends.
-/
namespace Go.Proofs.YtlfpepehngkehaaGreat
set_option linter.unusedSimpArgs false
set_option linter.unusedVariables false
open Go.RowKit

def RowRel (D : Dic) (t : ByteArray) (hi n te : Nat) (w : World) (f x : Value) (wr : World) : Prop :=
  ∃ j m : Nat, j ≤ D.length ∧ x = .int .i64 j ∧ f = .int .i64 m ∧ m = rowTo (rch D t hi n) D t te j ∧ wr = w

set_option maxHeartbeats 2000000 in
theorem row_any (w : World) (B : Nat) (D : Dic) (Wv Cv : Value) (hB : BookAt w B D Wv Cv) (hD : Small D) (t : ByteArray) (ht : t.size ≤ 500) (hi : Nat) (hhi : hi ≤ t.size) : ∀ (n : Nat), n ≤ 2 → ∀ (i k : Nat), k < D.length → Stands t i (wd D k) →
    Calls Tryz.prog 102 #[.pointer (some ⟨B, 0, none⟩), .string t, .int .i64 i, .int .i64 k, .int .i64 n, .int .i64 hi] w fun e w' => e = .returned (.int .i64 (rch D t hi n (i + (wd D k).size))) ∧ w' = w := by
  intro n
  induction n with
  | zero =>
    intro _ i k hk hst
    obtain ⟨gw, gc, capw, capc, rfl, rfl, hb0, _, hw0, _⟩ := hB.word hk
    obtain ⟨hx1, hx2, _⟩ := hD.at hk
    have hD150 := hD.1
    have hle := hst.2.1
    obtain ⟨x, hx⟩ : ∃ x, x = wd D k := ⟨_, rfl⟩
    rw [← hx] at hw0 hx1 hx2 hle ⊢
    clear hx hB hD hst
    have hki : (k : Int) < (D.length : Int) := by omega
    obtain ⟨te, hte⟩ : ∃ te, te = i + x.size := ⟨_, rfl⟩
    have hte' : (i : Int) + (x.size : Int) = (te : Int) := by omega
    have hwt : IntKind.i64.wrap (te : Int) = (te : Int) := by rw [IntKind.wrap_i64]; omega
    rw [← hte]
    clear hte
    simp only [rch]
    go_enter Tryz.func102, Tryz.ntmps102
    go_wp2_with fail
    go_loopw [14, 15] (fun f x wr => f = .int .i64 te ∧ x = .int .i64 0 ∧ wr = w) (fun _ _ _ => 0)
    case atStart => exact ⟨rfl, rfl, rfl⟩
    case round =>
      obtain ⟨rfl, rfl, rfl⟩ := hrel
      go_wp2
      all_goals
        go_ret
        exact ⟨rfl, rfl⟩
  | succ n ih =>
    intro hn2 i k hk hst
    have ih := ih (by omega)
    have HIH : Hid (∀ (i k : Nat), k < D.length → Stands t i (wd D k) → Calls Tryz.prog 102 #[.pointer (some ⟨B, 0, none⟩), .string t, .int .i64 i, .int .i64 k, .int .i64 n, .int .i64 hi] w fun e w' => e = .returned (.int .i64 (rch D t hi n (i + (wd D k).size))) ∧ w' = w) := ih
    clear ih
    obtain ⟨gw, gc, capw, capc, rfl, rfl, hb0, _, hw0, _⟩ := hB.word hk
    have HB : Hid (BookAt w B D (.slice (some ⟨gw, 0, none⟩) D.length capw) (.slice (some ⟨gc, 0, none⟩) D.length capc)) := hB
    have HD : Hid (Small D) := hD
    obtain ⟨hx1, hx2, _⟩ := hD.at hk
    have hD150 := hD.1
    have hle := hst.2.1
    have hki : (k : Int) < (D.length : Int) := by omega
    obtain ⟨x, hx⟩ : ∃ x, x = wd D k := ⟨_, rfl⟩
    rw [← hx] at hw0 hx1 hx2 hle ⊢
    clear hx hB hD hst
    obtain ⟨te, hte⟩ : ∃ te, te = i + x.size := ⟨_, rfl⟩
    have hte' : (i : Int) + (x.size : Int) = (te : Int) := by omega
    have hts : te ≤ t.size := by omega
    have hwt : IntKind.i64.wrap (te : Int) = (te : Int) := by rw [IntKind.wrap_i64]; omega
    rw [← hte]
    clear hte hle
    have hwn : IntKind.i64.wrap (n : Int) = (n : Int) := by rw [IntKind.wrap_i64]; omega
    obtain ⟨R, hR⟩ : ∃ R, R = rch D t hi (n + 1) te := ⟨_, rfl⟩
    rw [← hR]
    have HR : Hid (R = rch D t hi (n + 1) te) := hR
    clear hR
    obtain ⟨N, hN⟩ : ∃ N, N = n + 1 := ⟨_, rfl⟩
    rw [← hN]
    have hn1 : (N : Int) - 1 = n := by omega
    have hn0 : (0 : Int) < (N : Int) := by omega
    clear hN
    go_enter Tryz.func102, Tryz.ntmps102
    by_cases hlt : te < hi
    · have hlt' : (te : Int) < (hi : Int) := by omega
      have HR2 : Hid (R = rowTo (rch D t hi n) D t te D.length) := by show _ = _; rw [HR.out]; simp only [rch]; rw [if_pos hlt]
      clear HR
      go_wp2_with fail
      go_loopw [14, 15] (fun f x wr => RowRel D t hi n te w f x wr) (fun _ x _ => D.length - (intOf x).toNat)
      case atStart => exact ⟨0, te, by omega, rfl, rfl, rfl, rfl⟩
      case round =>
        obtain ⟨j, m, hj, rfl, rfl, hm, rfl⟩ := hrel
        have HM : Hid (m = rowTo (rch D t hi n) D t te j) := hm
        clear hm
        by_cases hjl : j < D.length
        · have hjl' : (j : Int) < (D.length : Int) := by omega
          by_cases hs : Stands t te (wd D j)
          · have hd : decide (Stands t te (wd D j)) = true := decide_eq_true hs
            have HS : Hid (Stands t te (wd D j)) := hs
            obtain ⟨q, hq⟩ : ∃ q, q = rch D t hi n (te + (wd D j).size) := ⟨_, rfl⟩
            have HQ : Hid (q = rch D t hi n (te + (wd D j).size)) := hq
            have HN : Hid (rowTo (rch D t hi n) D t te (j + 1) = max m q) := by show _ = _; simp only [rowTo]; rw [if_pos hs, ← HM.out, ← hq]
            clear hs hq
            go_wp2_with fail
            refine (stands_any _ B D _ _ HB.out HD.out t te j ht hts hjl).mono ?_
            rintro e w' ⟨rfl, rfl⟩
            rw [hd]
            go_wp2_with fail
            refine (HIH.out te j hjl HS.out).mono ?_
            rintro e w' ⟨rfl, rfl⟩
            rw [← HQ.out]
            by_cases hmq : m < q
            · have hmq' : (m : Int) < (q : Int) := by omega
              go_wp2_with fail
              go_roundw
              case rel => unfold RowRel; exact ⟨j + 1, q, by omega, by go_num, rfl, by rw [HN.out]; omega, rfl⟩
              case measure => simp [intOf]; omega
            · have hmq' : ¬ (m : Int) < (q : Int) := by omega
              go_wp2_with fail
              go_roundw
              case rel => unfold RowRel; exact ⟨j + 1, m, by omega, by go_num, rfl, by rw [HN.out]; omega, rfl⟩
              case measure => simp [intOf]; omega
          · have hd : decide (Stands t te (wd D j)) = false := decide_eq_false hs
            have HN : Hid (rowTo (rch D t hi n) D t te (j + 1) = m) := by show _ = _; simp only [rowTo]; rw [if_neg hs, ← HM.out]
            clear hs
            go_wp2_with fail
            refine (stands_any _ B D _ _ HB.out HD.out t te j ht hts hjl).mono ?_
            rintro e w' ⟨rfl, rfl⟩
            rw [hd]
            go_wp2_with fail
            go_roundw
            case rel => unfold RowRel; exact ⟨j + 1, m, by omega, by go_num, rfl, HN.out.symm, rfl⟩
            case measure => simp [intOf]; omega
        · obtain rfl : j = D.length := by omega
          have hr : m = R := by rw [HM.out, HR2.out]
          subst hr
          clear HR2
          go_wp2
          go_ret
          exact ⟨rfl, rfl⟩
    · have hlt' : ¬ (te : Int) < (hi : Int) := by omega
      have hr : R = te := by rw [HR.out]; simp only [rch]; rw [if_neg hlt]
      subst hr
      clear HR
      go_wp2_with fail
      go_loopw [14, 15] (fun f x wr => f = .int .i64 R ∧ x = .int .i64 0 ∧ wr = w) (fun _ _ _ => 0)
      case atStart => exact ⟨rfl, rfl, rfl⟩
      case round =>
        obtain ⟨rfl, rfl, rfl⟩ := hrel
        go_wp2
        all_goals
          go_ret
          exact ⟨rfl, rfl⟩

end Go.Proofs.YtlfpepehngkehaaGreat
/-
  Walks: the reference: where a piece of capitals ends.
-/
namespace Go.Proofs.YtlfpepehngkehaaGreat
set_option linter.unusedSimpArgs false
set_option linter.unusedVariables false
open Go.RowKit

def AheadRel (D : Dic) (t : ByteArray) (i hi : Nat) (w : World) (a b x : Value) (wr : World) : Prop :=
  ∃ (n : Nat) (a' b' : Int), n ≤ D.length ∧ x = .int .i64 n ∧ a = .int .i64 a' ∧ b = .int .i64 b' ∧ AheadTo D t i hi n a' b' ∧ wr = w

def NextRel (D : Dic) (t : ByteArray) (i hi g : Nat) (w : World) (a : Value) (wr : World) : Prop :=
  ∃ p : Nat, g = hi - p ∧ i < p ∧ p ≤ hi ∧ a = .int .i64 p ∧ (∀ j, i < j → j < p → ¬ AnyAt D t j) ∧ wr = w

def NoneRel (D : Dic) (t : ByteArray) (p g : Nat) (w : World) (x : Value) (wr : World) : Prop :=
  ∃ n : Nat, g = D.length - n ∧ n ≤ D.length ∧ x = .int .i64 n ∧ (∀ k, k < n → ¬ Stands t p (wd D k)) ∧ wr = w

set_option maxHeartbeats 4000000 in
theorem ahead_any (w : World) (B : Nat) (D : Dic) (Wv Cv : Value) (hB : BookAt w B D Wv Cv) (hD : Small D) (t : ByteArray) (ht : t.size ≤ 500) (i hi : Nat) (hhi : hi ≤ t.size) (hih : i < hi) :
    Calls Tryz.prog 85 #[.pointer (some ⟨B, 0, none⟩), .string t, .int .i64 i, .int .i64 hi] w fun e w' => (∃ p : Nat, e = .returned (.int .i64 p) ∧ AheadOk D t i hi p) ∧ w' = w := by
  obtain ⟨pw, capw, rfl, hgw⟩ := row_form hB.ow
  have hb0 := hB.c0
  have HB : Hid (BookAt w B D (.slice pw D.length capw) Cv) := hB
  have HD : Hid (Small D) := hD
  have hD150 := hD.1
  clear hB hD
  have hits : i ≤ t.size := by omega
  go_enter Tryz.func85, Tryz.ntmps85
  go_wp2_with fail
  go_loopw [9, 10, 11] (fun a b x wr => AheadRel D t i hi w a b x wr) (fun _ _ x _ => D.length - (intOf x).toNat)
  case atStart => exact ⟨0, -1, -1, by omega, rfl, rfl, rfl, .inl ⟨fun k hk => by omega, rfl, rfl⟩, rfl⟩
  case round =>
    obtain ⟨n, a', b', hn, rfl, rfl, rfl, hA, rfl⟩ := hrel
    have HA : Hid (AheadTo D t i hi n a' b') := hA
    by_cases hlt : n < D.length
    · have hlt' : (n : Int) < (D.length : Int) := by omega
      by_cases hs : Stands t i (wd D n)
      · have hd : decide (Stands t i (wd D n)) = true := decide_eq_true hs
        have HS : Hid (Stands t i (wd D n)) := hs
        obtain ⟨gw, gc, capw', capc, hWe, hCe, _, _, hw0, _⟩ := HB.out.word hlt
        cases hWe
        have hxs := HD.out.at hlt
        obtain ⟨hx1, hx2, _⟩ := hxs
        have hle := hs.2.1
        obtain ⟨x, hx⟩ : ∃ x, x = wd D n := ⟨_, rfl⟩
        obtain ⟨te, hte⟩ : ∃ te, te = i + (wd D n).size := ⟨_, rfl⟩
        obtain ⟨q, hq⟩ : ∃ q, q = rch D t hi 2 te := ⟨_, rfl⟩
        have HTE : Hid (te = i + (wd D n).size) := hte
        have HQ : Hid (q = rch D t hi 2 te) := hq
        rw [← hx] at hw0 hx1 hx2 hle hte
        have hte' : (i : Int) + (x.size : Int) = (te : Int) := by omega
        have hwt : IntKind.i64.wrap (te : Int) = (te : Int) := by rw [IntKind.wrap_i64]; omega
        clear hs hte hq hx hCe hA
        go_wp2_with fail
        refine (stands_any _ B D _ _ HB.out HD.out t i n ht hits hlt).mono ?_
        rintro e w' ⟨rfl, rfl⟩
        rw [hd]
        go_wp2_with fail
        refine (row_any _ B D _ _ HB.out HD.out t ht hi hhi 2 (Nat.le_refl _) i n hlt HS.out).mono ?_
        rintro e w' ⟨rfl, rfl⟩
        rw [← HTE.out, ← HQ.out]
        by_cases h1 : b' < (q : Int)
        · have HN : Hid (AheadTo D t i hi (n + 1) (te : Int) (q : Int)) := by
            show AheadTo _ _ _ _ _ _ _
            rw [HTE.out, HQ.out, HTE.out]
            exact HA.out.take HS.out (.inl (by rw [← HTE.out, ← HQ.out]; exact h1))
          go_wp2_with fail
          go_roundw
          case rel => exact ⟨n + 1, te, q, by omega, by go_num, rfl, rfl, HN.out, rfl⟩
          case measure => simp [intOf]; omega
        · by_cases h2 : (q : Int) = b'
          · by_cases h3 : a' < (te : Int)
            · have HN : Hid (AheadTo D t i hi (n + 1) (te : Int) (q : Int)) := by
                show AheadTo _ _ _ _ _ _ _
                rw [HTE.out, HQ.out, HTE.out]
                exact HA.out.take HS.out (.inr ⟨by rw [← HTE.out, ← HQ.out]; exact h2.symm, by rw [← HTE.out]; exact h3⟩)
              have h2' : ((q : Int) == b') = true := by simp [h2]
              clear HA
              subst h2
              go_wp2_with fail
              go_roundw
              case rel => exact ⟨n + 1, te, q, by omega, by go_num, rfl, rfl, HN.out, rfl⟩
              case measure => simp [intOf]; omega
            · have HN : Hid (AheadTo D t i hi (n + 1) a' b') := by
                show AheadTo _ _ _ _ _ _ _
                exact HA.out.keep HS.out (by rw [← HTE.out, ← HQ.out]; omega)
              clear HA
              subst h2
              go_wp2_with fail
              go_roundw
              case rel => exact ⟨n + 1, a', q, by omega, by go_num, rfl, rfl, HN.out, rfl⟩
              case measure => simp [intOf]; omega
          · have HN : Hid (AheadTo D t i hi (n + 1) a' b') := by
              show AheadTo _ _ _ _ _ _ _
              exact HA.out.keep HS.out (by rw [← HTE.out, ← HQ.out]; omega)
            have h2' : ((q : Int) == b') = false := by simp [h2]
            go_wp2_with fail
            go_roundw
            case rel => exact ⟨n + 1, a', b', by omega, by go_num, rfl, rfl, HN.out, rfl⟩
            case measure => simp [intOf]; omega
      · have hd : decide (Stands t i (wd D n)) = false := decide_eq_false hs
        have HN : Hid (AheadTo D t i hi (n + 1) a' b') := HA.out.skip hs
        clear hs hA
        go_wp2_with fail
        refine (stands_any _ B D _ _ HB.out HD.out t i n ht hits hlt).mono ?_
        rintro e w' ⟨rfl, rfl⟩
        rw [hd]
        go_wp2_with fail
        go_roundw
        case rel => exact ⟨n + 1, a', b', by omega, by go_num, rfl, rfl, HN.out, rfl⟩
        case measure => simp [intOf]; omega
    · obtain rfl : n = D.length := by omega
      rcases hA with ⟨hA, rfl, rfl⟩ | ⟨e, hA, rfl, rfl⟩
      · have HNo : Hid (¬ AnyAt D t i) := fun ⟨k, h1, h2⟩ => hA k h1 h2
        clear hA HA
        go_wp2_with fail
        go_loopg [9] (hi - (i + 1)) (fun g a wx => NextRel D t i hi g wr a wx)
        case atStart => exact ⟨i + 1, rfl, by omega, by omega, by go_num, fun j a b => by omega, rfl⟩
        case round =>
          obtain ⟨p, rfl, hp1, hp2, rfl, hp3, rfl⟩ := hrel
          have HP : Hid (∀ j, i < j → j < p → ¬ AnyAt D t j) := hp3
          clear hp3
          have hpts : p ≤ t.size := by omega
          by_cases hph : p < hi
          · have hph' : (p : Int) < (hi : Int) := by omega
            go_wp2_with fail
            go_loopg [15] D.length (fun g x wx => NoneRel D t p g wr x wx)
            case atStart => exact ⟨0, rfl, by omega, rfl, fun k hk => by omega, rfl⟩
            case round =>
              obtain ⟨n, rfl, hn, rfl, hno, rfl⟩ := hrel
              have HN : Hid (∀ k, k < n → ¬ Stands t p (wd D k)) := hno
              clear hno
              by_cases hlt2 : n < D.length
              · have hlt2' : (n : Int) < (D.length : Int) := by omega
                by_cases hs : Stands t p (wd D n)
                · have hd : decide (Stands t p (wd D n)) = true := decide_eq_true hs
                  have HS : Hid (AnyAt D t p) := ⟨n, hlt2, hs⟩
                  clear hs
                  go_wp2_with fail
                  refine (stands_any _ B D _ _ HB.out HD.out t p n ht hpts hlt2).mono ?_
                  rintro e w' ⟨rfl, rfl⟩
                  rw [hd]
                  go_wp2_with fail
                  go_ret
                  exact ⟨⟨p, rfl, .inr ⟨HNo.out, hp1, hp2, .inr HS.out, HP.out⟩⟩, rfl⟩
                · have hd : decide (Stands t p (wd D n)) = false := decide_eq_false hs
                  have HN2 : Hid (∀ k, k < n + 1 → ¬ Stands t p (wd D k)) := fun k hk => by
                    by_cases e : k = n
                    · subst e; exact hs
                    · exact HN.out k (by omega)
                  clear hs
                  go_wp2_with fail
                  refine (stands_any _ B D _ _ HB.out HD.out t p n ht hpts hlt2).mono ?_
                  rintro e w' ⟨rfl, rfl⟩
                  rw [hd]
                  go_wp2_with fail
                  go_roundg (D.length - (n + 1))
                  case measure => omega
                  case rel => exact ⟨n + 1, rfl, by omega, by go_num, HN2.out, rfl⟩
              · obtain rfl : n = D.length := by omega
                have HP2 : Hid (∀ j, i < j → j < p + 1 → ¬ AnyAt D t j) := fun j h1 h2 => by
                  by_cases e : j = p
                  · subst e; exact fun ⟨k, a, b⟩ => HN.out k a b
                  · exact HP.out j h1 (by omega)
                go_wp2_with fail
                go_roundg (hi - (p + 1))
                case measure => omega
                case rel => exact ⟨p + 1, rfl, by omega, by omega, by go_num, HP2.out, rfl⟩
          · obtain rfl : p = hi := by omega
            go_wp2_with fail
            go_ret
            exact ⟨⟨p, rfl, .inr ⟨HNo.out, hp1, hp2, .inl rfl, HP.out⟩⟩, rfl⟩
      · have HE : Hid (BestAhead D t i hi D.length e) := hA
        have he0 : (0 : Int) ≤ (e : Int) := by omega
        clear hA HA
        go_wp2
        go_ret
        exact ⟨⟨e, rfl, .inl HE.out⟩, rfl⟩

end Go.Proofs.YtlfpepehngkehaaGreat
/-
  Walks: the reference: a step of a way.
-/
namespace Go.Proofs.YtlfpepehngkehaaGreat
set_option linter.unusedSimpArgs false
set_option linter.unusedVariables false
open Go.RowKit

theorem Tryz.infoIntE : (Tryz.prog.info? 3).map (fun i => (i.zero, i.size, i.bytes)) = some (some (.int .i64 0), 1, 8) := by kernel_rfl

def wCost (o : Option BWay) : Nat := match o with | none => 0 | some b => b.1
def wList (o : Option BWay) : List Nat := match o with | none => [] | some b => b.2

/-- a way lies in a block of three cells that may be written. -/
structure Cells3 (w : World) (B : Nat) (x y z : Value) : Prop where
  c0 : w.cell? ⟨B, 0, none⟩ = some x
  c1 : w.cell? ⟨B, 1, none⟩ = some y
  c2 : w.cell? ⟨B, 2, none⟩ = some z
  fz : ∀ o, w.frozen? ⟨B, o, none⟩ = false

theorem Cells3.kept {w w' : World} {B : Nat} {x y z : Value} {S : Nat → Prop} (h : Cells3 w B x y z) (hk : Kept w w' S) (hB : ¬ S B) : Cells3 w' B x y z := by
  have hb : B < w.heap.size := cell_lt h.c0
  exact ⟨(hk.cell (p := ⟨B, 0, none⟩) hb hB).trans h.c0, (hk.cell (p := ⟨B, 1, none⟩) hb hB).trans h.c1, (hk.cell (p := ⟨B, 2, none⟩) hb hB).trans h.c2, fun o => (hk.frozen (p := ⟨B, o, none⟩) hb hB).trans (h.fz o)⟩

theorem Cells3.new (w : World) (x y z : Value) (t : TypeId) (B : Nat) (hB : B = w.heap.size) : Cells3 (w.alloc (.cells #[x, y, z] t)) B x y z := by
  subst hB
  refine ⟨?_, ?_, ?_, fun o => ?_⟩
  · rw [World.cell?_alloc_at _ _ _ _ rfl]; rfl
  · rw [World.cell?_alloc_at _ _ _ _ rfl]; rfl
  · rw [World.cell?_alloc_at _ _ _ _ rfl]; rfl
  · simp

theorem Cells3.set2 {w : World} {B : Nat} {x y z : Value} (h : Cells3 w B x y z) (v : Value) : Cells3 (w.setCell ⟨B, 2, none⟩ v) B x y v :=
  ⟨(World.cell?_setCell_other _ _ _ _ (by simp)).trans h.c0, (World.cell?_setCell_other _ _ _ _ (by simp)).trans h.c1, World.cell?_setCell_same _ _ _ h.c2, fun o => by simp [h.fz]⟩

def StepRel (w : World) (bl : List Nat) (sc : Nat) (o : Option BWay) (ov nv : Value) (wx : World) : Prop :=
  wx.ownsRow (w.heap.size + 4) 3 1 nv bl.length (intCells bl) ∧ Same w wx ∧ w.heap.size + 4 ≤ wx.heap.size ∧ Cells3 wx (w.heap.size + 1) (.bool o.isSome) (.int .i64 (wCost o)) ov ∧
    Cells3 wx (w.heap.size + 1 + 1) (.bool false) (.int .i64 0) (.slice none 0 0) ∧ Cells3 wx (w.heap.size + 1 + 1 + 1) (.bool true) (.int .i64 sc) nv

theorem StepRel.next {w wx w' : World} {bl bl' : List Nat} {sc : Nat} {o : Option BWay} {ov nv nv' : Value} (h : StepRel w bl sc o ov nv wx) (hk : Kept wx w' (fun k => nv.ownBlock = some k)) (hr : w'.ownsRow (w.heap.size + 4) 3 1 nv' bl'.length (intCells bl')) :
    StepRel w bl' sc o ov nv' (w'.setCell ⟨w.heap.size + 1 + 1 + 1, 2, none⟩ nv') := by
  obtain ⟨h1, h2, h3, h4, h5, h6⟩ := h
  have hlt : ∀ B, B < w.heap.size + 4 → ¬ (nv.ownBlock = some B) := fun B hB e => by have := (h1.lt B e).1; omega
  have hk2 : Kept w' (w'.setCell ⟨w.heap.size + 1 + 1 + 1, 2, none⟩ nv') (fun k => k = w.heap.size + 1 + 1 + 1) := (Kept.refl _ _).setCell _ _ (.inl rfl)
  refine ⟨Kept.row hr hk2 fun k e e2 => ?_, ?_, ?_, ?_, ?_, ?_⟩
  · have := (hr.lt k e).1; omega
  · exact Kept.trans (Kept.trans h2 hk fun i e => .inr (by have := (h1.lt i e).1; omega)) hk2 fun i e => .inr (by omega)
  · have := hk.size; have := hk2.size; omega
  · exact (h4.kept hk (hlt _ (by omega))).kept hk2 (by omega)
  · exact (h5.kept hk (hlt _ (by omega))).kept hk2 (by omega)
  · exact (h6.kept hk (hlt _ (by omega))).set2 _

theorem StepRel.start (w : World) (x0 x1 x2 : Value) (o : Option BWay) (ov : Value) (sc : Nat) (t : TypeId) :
    StepRel w [] sc o ov (.slice none 0 0) ((((w.alloc (.cells #[x0, x1, x2] t)).alloc (.cells #[.bool o.isSome, .int .i64 (wCost o), ov] t)).alloc (.cells #[.bool false, .int .i64 0, .slice none 0 0] t)).alloc (.cells #[.bool true, .int .i64 sc, .slice none 0 0] t)) := by
  have s0 : (w.alloc (.cells #[x0, x1, x2] t)).heap.size = w.heap.size + 1 := by simp
  refine ⟨World.ownsRow_nil _ _ _ _, ((((Same.refl w).alloc _).alloc _).alloc _).alloc _, by simp, ?_, ?_, ?_⟩
  · exact Cells3.kept (S := fun _ => False) (Cells3.new _ _ _ _ _ _ (by simp)) (((Kept.refl _ _).alloc _).alloc _) (fun e => e)
  · exact Cells3.kept (S := fun _ => False) (Cells3.new _ _ _ _ _ _ (by simp)) ((Kept.refl _ _).alloc _) (fun e => e)
  · exact Cells3.new _ _ _ _ _ _ (by simp)

theorem one1E (L : List Nat) : ∀ u ∈ intCells L, u.oneCell' = true := by
  intro u hu; simp [intCells] at hu; obtain ⟨x, _, rfl⟩ := hu; rfl
theorem news1E (w : World) (x : Value) (t : TypeId) (n : Nat) (hn : n = w.heap.size) : ∀ j u, [x][j]? = some u → (w.alloc (.cells #[x] t)).cell? ((⟨n, 0, none⟩ : Addr).add j) = some u := by
  subst hn; exact cell_one_new _ _ _

def StepEnd (w w' : World) (base : Nat) (b : BWay) (c p : Nat) (o : Option BWay) (e : Ending) : Prop :=
  (∃ v, e = .returned (.agg #[.bool true, .int .i64 (stepW b c p o).1, v]) ∧ w'.ownsRow base 3 1 v (stepW b c p o).2.length (intCells (stepW b c p o).2)) ∧ Below w.heap.size w w'

theorem step_fin {w X X' : World} {bl : List Nat} {sc base : Nat} {o : Option BWay} {ov nv : Value} (h : StepRel w bl sc o ov nv X) (hs : Same X X') (hbase : base ≤ w.heap.size) (x y z v : Value) (L : List Nat) (hr : X'.ownsRow base 3 1 v L.length (intCells L)) (hv : ∀ k, v.ownBlock = some k → k ≠ w.heap.size + 1 + 1) :
    (((X'.setCell ⟨w.heap.size + 1 + 1, 0, none⟩ x).setCell ⟨w.heap.size + 1 + 1, 1, none⟩ y).setCell ⟨w.heap.size + 1 + 1, 2, none⟩ z).ownsRow base 3 1 v L.length (intCells L) ∧
      Below w.heap.size w (((X'.setCell ⟨w.heap.size + 1 + 1, 0, none⟩ x).setCell ⟨w.heap.size + 1 + 1, 1, none⟩ y).setCell ⟨w.heap.size + 1 + 1, 2, none⟩ z) := by
  have hk : Kept X' (((X'.setCell ⟨w.heap.size + 1 + 1, 0, none⟩ x).setCell ⟨w.heap.size + 1 + 1, 1, none⟩ y).setCell ⟨w.heap.size + 1 + 1, 2, none⟩ z) (fun k => k = w.heap.size + 1 + 1) :=
    by
    refine Kept.setCell (Kept.setCell (Kept.setCell (Kept.refl X' _) _ _ ?_) _ _ ?_) _ _ ?_
    all_goals exact .inl rfl
  refine ⟨Kept.row hr hk fun k e e2 => hv k e e2, ?_⟩
  have h1 : Same w X' := Kept.trans h.2.1 hs fun _ e => e.elim
  exact Kept.below (Kept.trans h1 hk fun i e => .inr (by omega)) (Nat.le_refl _) (fun _ e => e.elim)

theorem stepW_none {bc c p sc : Nat} {bl : List Nat} (h : sc = bc + c) : stepW (bc, bl) c p none = (sc, bl ++ [p]) := by simp [stepW, h]
theorem stepW_lt {bc c p sc oc : Nat} {bl ol : List Nat} (h : sc = bc + c) (hl : sc < oc) : stepW (bc, bl) c p (some (oc, ol)) = (sc, bl ++ [p]) := by
  simp only [stepW, ← h]; rw [if_pos (.inl hl)]
theorem stepW_t {bc c p sc oc : Nat} {bl ol : List Nat} (h : sc = bc + c) (hl : sc = oc) (hr : true = llt (bl ++ [p]) ol) : stepW (bc, bl) c p (some (oc, ol)) = (sc, bl ++ [p]) := by
  simp only [stepW, ← h]; rw [if_pos (.inr ⟨hl, hr.symm⟩)]
theorem stepW_f {bc c p sc oc : Nat} {bl ol : List Nat} (h : sc = bc + c) (hl : sc = oc) (hr : false = llt (bl ++ [p]) ol) : stepW (bc, bl) c p (some (oc, ol)) = (oc, ol) := by
  simp only [stepW, ← h]; rw [if_neg (by rintro (a | ⟨_, a⟩); omega; rw [← hr] at a; cases a)]
theorem stepW_gt {bc c p sc oc : Nat} {bl ol : List Nat} (h : sc = bc + c) (hl : ¬ sc < oc) (hr : ¬ sc = oc) : stepW (bc, bl) c p (some (oc, ol)) = (oc, ol) := by
  simp only [stepW, ← h]; rw [if_neg (by omega)]
theorem ibeq_t {a b : Nat} (h : a = b) : ((a : Int) == (b : Int)) = true := by subst h; simp
theorem ibeq_f {a b : Nat} (h : ¬ a = b) : ((a : Int) == (b : Int)) = false := by rw [beq_eq_false_iff_ne]; omega
theorem inlt {a b : Nat} (h : ¬ a < b) : ¬ (a : Int) < (b : Int) := by omega

theorem step_end {w w' : World} {base bc c p rc : Nat} {bl rl : List Nat} {o : Option BWay} {v : Value} (hW : stepW (bc, bl) c p o = (rc, rl)) (h : w'.ownsRow base 3 1 v rl.length (intCells rl) ∧ Below w.heap.size w w') :
    StepEnd w w' base (bc, bl) c p o (.returned (.agg #[.bool true, .int .i64 rc, v])) := by
  refine ⟨⟨v, ?_, ?_⟩, h.2⟩
  · rw [hW]
  · rw [hW]; exact h.1

set_option maxHeartbeats 4000000 in
set_option maxRecDepth 100000 in
theorem step_any (w : World) (base : Nat) (hbase : base ≤ w.heap.size) (b : BWay) (bv : Value) (hb : w.ownsRow base 3 1 bv b.2.length (intCells b.2)) (o : Option BWay) (ov : Value) (ho : w.ownsRow base 3 1 ov (wList o).length (intCells (wList o)))
    (c p : Nat) (hb1 : b.1 ≤ 1000000) (hb2 : b.2.length ≤ 900) (ho2 : (wList o).length ≤ 1000) (hc : c ≤ 1000) (hp : p ≤ 1000) :
    Calls Tryz.prog 100 #[.agg #[.bool true, .int .i64 b.1, bv], .int .i64 c, .int .i64 p, .agg #[.bool o.isSome, .int .i64 (wCost o), ov]] w fun e w' => StepEnd w w' base b c p o e := by
  obtain ⟨ii, hii, hi0, hi1, hi2⟩ := info_parts Tryz.infoIntE
  obtain ⟨bc, bl⟩ := b
  obtain ⟨sc, hsc⟩ : ∃ sc, sc = bc + c := ⟨_, rfl⟩
  have HSC : Hid (sc = bc + c) := hsc
  have hsc1 : (bc : Int) + (c : Int) = (sc : Int) := by omega
  have hb1 : bc ≤ 1000000 := hb1
  have hwsc : IntKind.i64.wrap (sc : Int) = (sc : Int) := by rw [IntKind.wrap_i64]; omega
  have hwsc2 : wrap64 (sc : Int) = (sc : Int) := by unfold wrap64; omega
  have hb2 : bl.length ≤ 900 := hb2
  have hlen : (bl ++ [p]).length ≤ 1000 := by simp; omega
  have hbase4 : base ≤ w.heap.size + 4 := by omega
  have hb : w.ownsRow base 3 1 bv bl.length (intCells bl) := hb
  have HO : Hid (w.ownsRow base 3 1 ov (wList o).length (intCells (wList o))) := ho
  clear hsc ho
  go_enter Tryz.func100, Tryz.ntmps100
  go_upto_region 2 with fail
  go_cut [20] (fun nv wx => StepRel w bl sc o ov nv wx)
  case first =>
    have hst := StepRel.start w (.bool true) (.int .i64 bc) bv o ov sc 166
    have hsW : Same w ((((w.alloc (.cells #[.bool true, .int .i64 bc, bv] 166)).alloc (.cells #[.bool o.isSome, .int .i64 (wCost o), ov] 166)).alloc (.cells #[.bool false, .int .i64 0, .slice none 0 0] 166)).alloc (.cells #[.bool true, .int .i64 sc, .slice none 0 0] 166)) := hst.2.1
    have hbW := hsW.row hb
    have HST : Hid (StepRel w [] sc o ov (.slice none 0 0) ((((w.alloc (.cells #[.bool true, .int .i64 bc, bv] 166)).alloc (.cells #[.bool o.isSome, .int .i64 (wCost o), ov] 166)).alloc (.cells #[.bool false, .int .i64 0, .slice none 0 0] 166)).alloc (.cells #[.bool true, .int .i64 sc, .slice none 0 0] 166))) := hst
    have HBW := hbW
    clear hst hsW
    obtain ⟨_, hsh⟩ := hbW
    rcases hsh with ⟨rfl, h0⟩ | ⟨g, cp, cur, rfl, _⟩
    · have hbl : bl = [] := List.eq_nil_of_length_eq_zero h0
      subst hbl
      clear HBW hb
      go_wp2_with (at_builtin; refine wpList_append_own_none rfl _ _ 48 rfl (w.heap.size + 4) 3 ii 1 Tryz.underlying48 hii (.slice none 0 0) 0 [] rfl (World.ownsRow_nil _ _ _ _) rfl ?_)
      go_meet
      exact HST.out
    · clear hb
      go_wp2_with (at_builtin; refine wpList_append_own _ rfl _ _ 48 rfl (w.heap.size + 4) 3 ii _ 1 8 Tryz.underlying48 hii hi0 hi1 hi2 rfl (by decide) (.slice none 0 0) 0 [] rfl (World.ownsRow_nil _ _ _ _) ⟨g, 0, none⟩ bl.length cp (intCells bl) rfl (by simp [intCells_length]) (HBW.cells (g := g) rfl) (one1E _) (by unfold maxLen; omega) (by omega) (by simp) ?_)
      intro v' w2 hown' hgrow _
      have hown' : w2.ownsRow (w.heap.size + 4) 3 1 v' bl.length (intCells bl) := by simpa using hown'
      obtain ⟨a', cap', rfl, _⟩ := row_form hown'
      have HR : Hid (StepRel w bl sc o ov (.slice a' bl.length cap') (w2.setCell ⟨w.heap.size + 1 + 1 + 1, 2, none⟩ (.slice a' bl.length cap'))) := HST.out.next ((Kept.refl _ _).grown hgrow (fun k hk => .inl hk)) hown'
      have hf3 := (Kept.frozen ((Kept.refl _ (fun k => (Value.slice none 0 0).ownBlock = some k)).grown hgrow (fun k hk => .inl hk)) (p := ⟨w.heap.size + 1 + 1 + 1, 2, none⟩) (by simp) (by simp [Value.ownBlock])).trans (HST.out.2.2.2.2.2.fz 2)
      have hc3 := (Kept.cell ((Kept.refl _ (fun k => (Value.slice none 0 0).ownBlock = some k)).grown hgrow (fun k hk => .inl hk)) (p := ⟨w.heap.size + 1 + 1 + 1, 2, none⟩) (by simp) (by simp [Value.ownBlock])).trans HST.out.2.2.2.2.2.c2
      clear hgrow hown' HBW
      go_wp2_with fail
      go_meet
      exact HR.out
  case rest =>
    obtain ⟨an, cn, rfl, _⟩ := row_form hcut.1
    obtain ⟨ao, co, rfl, _⟩ := row_form HO.out
    have HR : Hid (StepRel w bl sc o (.slice ao (wList o).length co) (.slice an bl.length cn) wc) := hcut
    obtain ⟨hown, hsm, hszc, _, _, hN⟩ := hcut
    have hn2 := hN.c2
    have hB3 : w.heap.size + 1 + 1 + 1 < wc.heap.size := by omega
    clear hN
    go_wp2_with (at_builtin; refine wpList_append_own _ rfl _ _ 48 rfl (w.heap.size + 4) 3 ii _ 1 8 Tryz.underlying48 hii hi0 hi1 hi2 rfl (by decide) _ _ _ rfl (hown.alloc _) ⟨wc.heap.size, 0, none⟩ 1 1 [.int .i64 p] rfl rfl (news1E _ _ _ _ rfl) (one1E [p]) (by unfold maxLen; omega) (by omega) (by simp; omega) ?_)
    intro v' w2 hown' hgrow _
    have hown' : w2.ownsRow (w.heap.size + 4) 3 1 v' (bl ++ [p]).length (intCells (bl ++ [p])) := by rw [intCells_append, List.length_append]; exact hown'
    obtain ⟨n1, hn1⟩ : ∃ n1, n1 = (bl ++ [p]).length := ⟨_, rfl⟩
    have HN1 : Hid (n1 = (bl ++ [p]).length) := hn1
    obtain ⟨a', cap', hv', _⟩ := row_form hown'
    rw [← hn1] at hv'
    subst hv'
    have hK : Kept wc w2 (fun k => (Value.slice an bl.length cn).ownBlock = some k) := ((Kept.refl wc _).alloc _).grown hgrow (fun k hk => .inl hk)
    have hR2 : StepRel w (bl ++ [p]) sc o (.slice ao (wList o).length co) (.slice a' n1 cap') (w2.setCell ⟨w.heap.size + 1 + 1 + 1, 2, none⟩ (.slice a' n1 cap')) := HR.out.next hK hown'
    have hnb : ¬ ((Value.slice an bl.length cn).ownBlock = some (w.heap.size + 1 + 1 + 1)) := fun e => by have := (hown.lt _ e).1; omega
    have hf3 := (hK.frozen (p := ⟨w.heap.size + 1 + 1 + 1, 2, none⟩) hB3 hnb).trans (HR.out.2.2.2.2.2.fz 2)
    have hc3 := (hK.cell (p := ⟨w.heap.size + 1 + 1 + 1, 2, none⟩) hB3 hnb).trans HR.out.2.2.2.2.2.c2
    have HR2 : Hid (StepRel w (bl ++ [p]) sc o (.slice ao (wList o).length co) (.slice a' n1 cap') (w2.setCell ⟨w.heap.size + 1 + 1 + 1, 2, none⟩ (.slice a' n1 cap'))) := hR2
    clear hgrow hown' hK hnb hown hsm hR2 hn1 HR
    go_upto_region 4 with fail
    generalize hX : w2.setCell ⟨w.heap.size + 1 + 1 + 1, 2, none⟩ (.slice a' n1 cap') = X at HR2 ⊢
    clear hX hc3 hf3 hn2 hB3
    obtain ⟨hrow, hsX, _, hO, hZ, hN⟩ := HR2.out
    have HROW : Hid (X.ownsRow (w.heap.size + 4) 3 1 (.slice a' n1 cap') (bl ++ [p]).length (intCells (bl ++ [p]))) := hrow
    have HSX : Hid (Same w X) := hsX
    obtain ⟨ho0, ho1, ho2', _⟩ := hO
    obtain ⟨hz0, hz1, hz2, hzf⟩ := hZ
    obtain ⟨hn0, hn1, hn2, _⟩ := hN
    clear hrow hsX
    have HNB : Hid (∀ k, (Value.slice a' n1 cap').ownBlock = some k → k ≠ w.heap.size + 1 + 1) := fun k e => by have := (HROW.out.lt k e).1; omega
    have HNBo : Hid (∀ k, (Value.slice ao (wList o).length co).ownBlock = some k → k ≠ w.heap.size + 1 + 1) := fun k e => by have := (HO.out.lt k e).2; omega
    cases o with
    | none =>
      have HW : Hid (stepW (bc, bl) c p none = (sc, bl ++ [p])) := stepW_none HSC.out
      simp only [Option.isSome] at ho0
      go_wp2_with fail
      refine bodyPost_ret (v := .agg #[.bool true, .int .i64 sc, .slice a' n1 cap']) (by simp [results, Tryz.results100, go_sem, hz0, hz1, hz2]) rfl ?_
      have f1 := step_fin HR2.out (Same.refl X) hbase (.bool true) (.int .i64 sc) (.slice a' n1 cap') (.slice a' n1 cap') (bl ++ [p]) (row_base HROW.out hbase4) HNB.out
      exact step_end HW.out f1
    | some ob =>
      obtain ⟨oc, ol⟩ := ob
      simp only [Option.isSome, wCost, wList] at ho0 ho1 ho2' ho2 HO HNBo
      by_cases hlt : sc < oc
      · have hlt' : (sc : Int) < (oc : Int) := Int.ofNat_lt.2 hlt
        have HW : Hid (stepW (bc, bl) c p (some (oc, ol)) = (sc, bl ++ [p])) := stepW_lt HSC.out hlt
        go_wp2_with fail
        refine bodyPost_ret (v := .agg #[.bool true, .int .i64 sc, .slice a' n1 cap']) (by simp [results, Tryz.results100, go_sem, hz0, hz1, hz2]) rfl ?_
        have f1 := step_fin HR2.out (Same.refl X) hbase (.bool true) (.int .i64 sc) (.slice a' n1 cap') (.slice a' n1 cap') (bl ++ [p]) (row_base HROW.out hbase4) HNB.out
        exact step_end HW.out f1
      · have hlt' : ¬ (sc : Int) < (oc : Int) := inlt hlt
        have HOX : Hid (X.ownsRow base 3 1 (.slice ao ol.length co) ol.length (intCells ol)) := HSX.out.row HO.out
        have hXs : w.heap.size + 1 + 1 + 1 < X.heap.size := cell_lt hn0
        go_wp2_with fail
        refine (less_any X _ _ _ _ (bl ++ [p]) ol HROW.out HOX.out hlen ho2).mono ?_
        rintro e X' ⟨rfl, hsame⟩
        have hn0 := hsame.cell hn0
        have hn1 := hsame.cell hn1
        have hn2 := hsame.cell hn2
        have ho0 := hsame.cell ho0
        have ho1 := hsame.cell ho1
        have ho2'' := hsame.cell ho2'
        have hzf' : ∀ o, X'.frozen? ⟨w.heap.size + 1 + 1, o, none⟩ = false := fun o => (Kept.frozen hsame (p := ⟨w.heap.size + 1 + 1, o, none⟩) (cell_lt hz0) (fun e => e)).trans (hzf o)
        have hz0 := hsame.cell hz0
        have hz1 := hsame.cell hz1
        have hz2 := hsame.cell hz2
        obtain ⟨r, hr⟩ : ∃ r, r = llt (bl ++ [p]) ol := ⟨_, rfl⟩
        rw [← hr]
        have HRL : Hid (r = llt (bl ++ [p]) ol) := hr
        clear hr
        have HF1 : Hid (_ ∧ _) := step_fin HR2.out hsame hbase (.bool true) (.int .i64 sc) (.slice a' n1 cap') (.slice a' n1 cap') (bl ++ [p]) (row_base (hsame.row HROW.out) hbase4) HNB.out
        have HF2 : Hid (_ ∧ _) := step_fin HR2.out hsame hbase (.bool true) (.int .i64 oc) (.slice ao ol.length co) (.slice ao ol.length co) ol (hsame.row HOX.out) HNBo.out
        by_cases heq : sc = oc
        · have heq' : ((sc : Int) == (oc : Int)) = true := ibeq_t heq
          cases r with
          | true =>
            have HW : Hid (stepW (bc, bl) c p (some (oc, ol)) = (sc, bl ++ [p])) := stepW_t HSC.out heq HRL.out
            clear heq
            go_wp2_with fail
            refine bodyPost_ret (v := .agg #[.bool true, .int .i64 sc, .slice a' n1 cap']) (by simp [results, Tryz.results100, go_sem, hz0, hz1, hz2]) rfl ?_
            exact step_end HW.out HF1.out
          | false =>
            have HW : Hid (stepW (bc, bl) c p (some (oc, ol)) = (oc, ol)) := stepW_f HSC.out heq HRL.out
            clear heq
            go_wp2_with fail
            refine bodyPost_ret (v := .agg #[.bool true, .int .i64 oc, .slice ao ol.length co]) (by simp [results, Tryz.results100, go_sem, hz0, hz1, hz2]) rfl ?_
            exact step_end HW.out HF2.out
        · have heq' : ((sc : Int) == (oc : Int)) = false := ibeq_f heq
          have HW : Hid (stepW (bc, bl) c p (some (oc, ol)) = (oc, ol)) := stepW_gt HSC.out hlt heq
          clear heq
          go_wp2_with fail
          refine bodyPost_ret (v := .agg #[.bool true, .int .i64 oc, .slice ao ol.length co]) (by simp [results, Tryz.results100, go_sem, hz0, hz1, hz2]) rfl ?_
          exact step_end HW.out HF2.out

end Go.Proofs.YtlfpepehngkehaaGreat
/-
  Worlds: the best ways that are known, as the reference keeps them.
-/
namespace Go.Proofs.YtlfpepehngkehaaGreat
set_option linter.unusedSimpArgs false
set_option linter.unusedVariables false
open Go.RowKit

structure BestW (w : World) (G lo n : Nat) (f : Nat → Option BWay) : Prop where
  cell : ∀ d, d ≤ n → w.cell? ⟨G, d * 3, none⟩ = some (.bool (f (lo + d)).isSome) ∧ w.cell? ⟨G, d * 3 + 1, none⟩ = some (.int .i64 (wCost (f (lo + d)))) ∧
    ∃ v, w.cell? ⟨G, d * 3 + 2, none⟩ = some v ∧ w.ownsRow (G + 1) 3 1 v (wList (f (lo + d))).length (intCells (wList (f (lo + d))))
  fz : ∀ o, w.frozen? ⟨G, o, none⟩ = false

theorem BestW.lt {w : World} {G lo n : Nat} {f : Nat → Option BWay} (h : BestW w G lo n f) : G < w.heap.size := cell_lt (h.cell 0 (Nat.zero_le _)).1

theorem BestW.same {w w' : World} {G lo n : Nat} {f : Nat → Option BWay} (h : BestW w G lo n f) (hs : Same w w') : BestW w' G lo n f := by
  refine ⟨fun d hd => ?_, fun o => ?_⟩
  · obtain ⟨h1, h2, v, h3, h4⟩ := h.cell d hd
    exact ⟨hs.cell h1, hs.cell h2, v, hs.cell h3, hs.row h4⟩
  · exact (Kept.frozen hs (p := ⟨G, o, none⟩) h.lt id).trans (h.fz o)

theorem cell_set3 {w : World} {G a : Nat} {x y z : Value} {u0 u1 u2 : Value} (h0 : w.cell? ⟨G, a, none⟩ = some u0) (h1 : w.cell? ⟨G, a + 1, none⟩ = some u1) (h2 : w.cell? ⟨G, a + 2, none⟩ = some u2) :
    let W := ((w.setCell ⟨G, a, none⟩ x).setCell ⟨G, a + 1, none⟩ y).setCell ⟨G, a + 2, none⟩ z
    W.cell? ⟨G, a, none⟩ = some x ∧ W.cell? ⟨G, a + 1, none⟩ = some y ∧ W.cell? ⟨G, a + 2, none⟩ = some z := by
  intro W
  have n01 : (⟨G, a, none⟩ : Addr) ≠ ⟨G, a + 1, none⟩ := by simp
  have n02 : (⟨G, a, none⟩ : Addr) ≠ ⟨G, a + 2, none⟩ := by simp
  have n12 : (⟨G, a + 1, none⟩ : Addr) ≠ ⟨G, a + 2, none⟩ := by simp
  refine ⟨?_, ?_, ?_⟩
  · exact (World.cell?_setCell_other _ _ _ _ n02.symm).trans ((World.cell?_setCell_other _ _ _ _ n01.symm).trans (World.cell?_setCell_same _ _ _ h0))
  · exact (World.cell?_setCell_other _ _ _ _ n12.symm).trans (World.cell?_setCell_same _ _ _ ((World.cell?_setCell_other _ _ _ _ n01).trans h1))
  · exact World.cell?_setCell_same _ _ _ ((World.cell?_setCell_other _ _ _ _ n12).trans ((World.cell?_setCell_other _ _ _ _ n02).trans h2))

theorem cell_set3_other {w : World} {G a o : Nat} {x y z : Value} (h0 : o ≠ a) (h1 : o ≠ a + 1) (h2 : o ≠ a + 2) :
    (((w.setCell ⟨G, a, none⟩ x).setCell ⟨G, a + 1, none⟩ y).setCell ⟨G, a + 2, none⟩ z).cell? ⟨G, o, none⟩ = w.cell? ⟨G, o, none⟩ := by
  rw [World.cell?_setCell_other _ _ _ _ (by simp <;> omega), World.cell?_setCell_other _ _ _ _ (by simp <;> omega), World.cell?_setCell_other _ _ _ _ (by simp <;> omega)]

theorem kept_set3 (w : World) (G a : Nat) (x y z : Value) : Kept w (((w.setCell ⟨G, a, none⟩ x).setCell ⟨G, a + 1, none⟩ y).setCell ⟨G, a + 2, none⟩ z) (fun k => k = G) := by
  refine Kept.setCell (Kept.setCell (Kept.setCell (Kept.refl w _) _ _ ?_) _ _ ?_) _ _ ?_
  all_goals exact .inl rfl

theorem BestW.put {w : World} {G lo n d : Nat} {f : Nat → Option BWay} (h : BestW w G lo n f) (hd : d ≤ n) (b : BWay) (v : Value) (hr : w.ownsRow (G + 1) 3 1 v b.2.length (intCells b.2)) :
    BestW (((w.setCell ⟨G, d * 3, none⟩ (.bool true)).setCell ⟨G, d * 3 + 1, none⟩ (.int .i64 b.1)).setCell ⟨G, d * 3 + 2, none⟩ v) G lo n (fun p => if p = lo + d then some b else f p) := by
  have hk := kept_set3 w G (d * 3) (.bool true) (.int .i64 b.1) v
  have hrow : ∀ {u : Value} {m : Nat} {xs : List Value}, w.ownsRow (G + 1) 3 1 u m xs → (((w.setCell ⟨G, d * 3, none⟩ (.bool true)).setCell ⟨G, d * 3 + 1, none⟩ (.int .i64 b.1)).setCell ⟨G, d * 3 + 2, none⟩ v).ownsRow (G + 1) 3 1 u m xs :=
    fun hu => Kept.row hu hk fun k e e2 => by have := (hu.lt k e).1; omega
  refine ⟨fun d' hd' => ?_, fun o => ?_⟩
  · by_cases e : d' = d
    · subst e
      obtain ⟨h1, h2, u, h3, _⟩ := h.cell d' hd
      obtain ⟨c1, c2, c3⟩ := cell_set3 (x := .bool true) (y := .int .i64 b.1) (z := v) h1 h2 h3
      simp only [if_true]
      exact ⟨c1, c2, v, c3, hrow hr⟩
    · have e' : ¬ (lo + d' = lo + d) := by omega
      obtain ⟨h1, h2, u, h3, h4⟩ := h.cell d' hd'
      simp only [if_neg e']
      refine ⟨(cell_set3_other (by omega) (by omega) (by omega)).trans h1, (cell_set3_other (by omega) (by omega) (by omega)).trans h2, u, (cell_set3_other (by omega) (by omega) (by omega)).trans h3, hrow h4⟩
  · simp [h.fz]

theorem made_at (x y z : Value) (m k : Nat) (hk : k < m) : (madeCells #[x, y, z] (m * 3)).toList[k * 3]? = some x ∧ (madeCells #[x, y, z] (m * 3)).toList[k * 3 + 1]? = some y ∧ (madeCells #[x, y, z] (m * 3)).toList[k * 3 + 2]? = some z := by
  have h : ∀ j (hj : j < m * 3), (madeCells #[x, y, z] (m * 3)).toList[j]? = some (#[x, y, z][j % 3]!) := by
    intro j hj
    simp [madeCells, hj]
  refine ⟨?_, ?_, ?_⟩
  · rw [h _ (by omega), show k * 3 % 3 = 0 by omega]; rfl
  · rw [h _ (by omega), show (k * 3 + 1) % 3 = 1 by omega]; rfl
  · rw [h _ (by omega), show (k * 3 + 2) % 3 = 2 by omega]; rfl

theorem BestW.start {w : World} {B G lo n m : Nat} {t : TypeId} (hm : m = n + 1) (h : w.ownsRow B t 3 (.slice (some ⟨G, 0, none⟩) m m) m (madeCells #[.bool false, .int .i64 0, .slice none 0 0] (m * 3)).toList) :
    BestW (w.setCell ⟨G, 0, none⟩ (.bool true)) G lo n (fun p => if p = lo then some (0, []) else none) := by
  subst hm
  have hf : ∀ o, w.frozen? ⟨G, o, none⟩ = false := fun o => h.frozenAt o
  have hat : ∀ d, d ≤ n → w.cell? ⟨G, d * 3, none⟩ = some (.bool false) ∧ w.cell? ⟨G, d * 3 + 1, none⟩ = some (.int .i64 0) ∧ w.cell? ⟨G, d * 3 + 2, none⟩ = some (.slice none 0 0) := fun d hd => by
    obtain ⟨a, b, c⟩ := made_at (.bool false) (.int .i64 0) (.slice none 0 0) (n + 1) d (by omega)
    exact ⟨by rw [h.cellAt (d * 3) (by omega), a], by rw [h.cellAt (d * 3 + 1) (by omega), b], by rw [h.cellAt (d * 3 + 2) (by omega), c]⟩
  refine ⟨fun d hd => ?_, fun o => by simp [hf]⟩
  obtain ⟨a, b, c⟩ := hat d hd
  by_cases e : d = 0
  · subst e
    simp only [Nat.add_zero, if_true]
    exact ⟨World.cell?_setCell_same _ _ _ a, (World.cell?_setCell_other _ _ _ _ (by simp)).trans b, _, (World.cell?_setCell_other _ _ _ _ (by simp)).trans c, World.ownsRow_nil _ _ _ _⟩
  · have e' : ¬ (lo + d = lo) := by omega
    simp only [if_neg e']
    exact ⟨(World.cell?_setCell_other _ _ _ _ (by simp <;> omega)).trans a, (World.cell?_setCell_other _ _ _ _ (by simp)).trans b, _, (World.cell?_setCell_other _ _ _ _ (by simp)).trans c, World.ownsRow_nil _ _ _ _⟩

theorem best_start (D : Dic) (t : ByteArray) (lo hi : Nat) (hD : Small D) : BestS D t lo hi (Sat D t lo) (fun p => if p = lo then some (0, []) else none) := by
  have hno : ∀ p b, lo ≤ p → WayS D t lo (Sat D t lo) p b → p = lo ∧ b = (0, []) := fun p b hp hw => by
    rcases hw with h | ⟨q, l, c, c', h1, h2, _⟩
    · exact h
    · have := (h1.facts hD).1
      have := h2.2
      omega
  intro p h1 h2
  by_cases e : p = lo
  · subst e
    simp only [if_true]
    exact ⟨.inl ⟨rfl, rfl⟩, fun b' hb => by rw [(hno p b' h1 hb).2]; exact bleq_refl _⟩
  · simp only [if_neg e]
    exact fun b hb => e (hno p b h1 hb).1

/-- what is known of a place is a way there. -/
theorem BestS.bounds {D : Dic} {t : ByteArray} {lo hi : Nat} {S : Nat → Nat → Nat → Prop} {f : Nat → Option BWay} (hD : Small D) (h : BestS D t lo hi S f) (hS : ∀ q p c, S q p c → Step D t q p c) (hhi : hi ≤ 500) {p : Nat} (h1 : lo ≤ p) (h2 : p ≤ hi) :
    (wList (f p)).length ≤ 500 ∧ wCost (f p) ≤ 500000 := by
  have := h p h1 h2
  cases e : f p with
  | none => simp [wList, wCost]
  | some b =>
    rw [e] at this
    have hf := (this.1.way hS).facts hD
    simp only [wList, wCost]
    omega

/-- while the steps from i are looked at. -/
def CheapIn (D : Dic) (t : ByteArray) (lo hi i n G P : Nat) (w : World) (b : BWay) (bv : Value) (S : Nat → Nat → Nat → Prop) (wx : World) : Prop :=
  ∃ f, BestW wx G lo n f ∧ BestS D t lo hi S f ∧ f i = some b ∧ Cells3 wx P (.bool true) (.int .i64 b.1) bv ∧ wx.ownsRow (G + 1) 3 1 bv b.2.length (intCells b.2) ∧ Same w wx

theorem cheap_put {D : Dic} {t : ByteArray} {lo hi i n G P d c : Nat} {w X X' : World} {b : BWay} {bv v : Value} {S S' : Nat → Nat → Nat → Prop} {f : Nat → Option BWay} (hD : Small D)
    (hB : BestW X G lo n f) (hS : BestS D t lo hi S f) (hfi : f i = some b) (hP : Cells3 X P (.bool true) (.int .i64 b.1) bv) (hbr : X.ownsRow (G + 1) 3 1 bv b.2.length (intCells b.2)) (hsw : Same w X) (hw : Way D t lo i b.2 b.1) (hb : ∀ l c, Way D t lo i l c → bleq b (c, l))
    (hX : Same X X') (hr : X'.ownsRow (G + 1) 3 1 v (stepW b c (lo + d) (f (lo + d))).2.length (intCells (stepW b c (lo + d) (f (lo + d))).2)) (hd : d ≤ n) (hd0 : 0 < d) (hi' : i ≠ lo + d) (hPG : P ≠ G) (hG : w.heap.size ≤ G)
    (hSS : ∀ q p' c', S' q p' c' ↔ S q p' c' ∨ (q = i ∧ p' = lo + d ∧ c' = c)) :
    CheapIn D t lo hi i n G P w b bv S' (((X'.setCell ⟨G, d * 3, none⟩ (.bool true)).setCell ⟨G, d * 3 + 1, none⟩ (.int .i64 (stepW b c (lo + d) (f (lo + d))).1)).setCell ⟨G, d * 3 + 2, none⟩ v) := by
  have hk := kept_set3 X' G (d * 3) (.bool true) (.int .i64 (stepW b c (lo + d) (f (lo + d))).1) v
  refine ⟨_, (hB.same hX).put hd _ v hr, hS.add hD hw hb (by omega) hSS, by rw [if_neg hi']; exact hfi, (hP.kept hX id).kept hk hPG, ?_, ?_⟩
  · have := hX.row hbr
    exact Kept.row this hk fun k e e2 => by have := (this.lt k e).1; omega
  · exact Kept.trans (Kept.trans hsw hX fun _ e => e.elim) hk fun k e => .inr (by omega)

theorem CheapIn.same {D : Dic} {t : ByteArray} {lo hi i n G P : Nat} {w : World} {b : BWay} {bv : Value} {S S' : Nat → Nat → Nat → Prop} {X X' : World} (h : CheapIn D t lo hi i n G P w b bv S X) (hs : Same X X') (hS : ∀ q p c, S q p c ↔ S' q p c) : CheapIn D t lo hi i n G P w b bv S' X' := by
  obtain ⟨f, h1, h2, h3, h4, h5, h6⟩ := h
  exact ⟨f, h1.same hs, h2.congr hS, h3, h4.kept hs id, hs.row h5, Kept.trans h6 hs fun _ e => e.elim⟩

end Go.Proofs.YtlfpepehngkehaaGreat
/-
  Walks: the reference: the cheapest way through a run of small letters.
-/
namespace Go.Proofs.YtlfpepehngkehaaGreat
set_option linter.unusedSimpArgs false
set_option linter.unusedVariables false
open Go.RowKit

theorem Tryz.infoWay : (Tryz.prog.info? 166).map (fun i => (i.zero, i.size, i.bytes)) = some (some (.agg #[.bool false, .int .i64 0, .slice none 0 0]), 3, 40) := by kernel_rfl

def CheapRel (D : Dic) (t : ByteArray) (lo hi n : Nat) (w : World) (g : Nat) (x : Value) (wr : World) : Prop :=
  ∃ (i : Nat) (f : Nat → Option BWay), g = hi - i ∧ lo ≤ i ∧ i ≤ hi ∧ x = .int .i64 i ∧ BestW wr w.heap.size lo n f ∧ BestS D t lo hi (Sat D t i) f ∧ Same w wr

def NextE (t : ByteArray) (i hi g : Nat) (W : World) (x : Value) (wx : World) : Prop :=
  ∃ p : Nat, g = hi - p ∧ i < p ∧ p ≤ hi ∧ x = .int .i64 p ∧ (∀ j, i < j → j < p → ¬ Edge t j) ∧ wx = W

def KRel (D : Dic) (t : ByteArray) (lo hi i n G P : Nat) (w : World) (b : BWay) (bv : Value) (g : Nat) (y : Value) (wx : World) : Prop :=
  ∃ k : Nat, g = D.length - k ∧ k ≤ D.length ∧ y = .int .i64 k ∧ CheapIn D t lo hi i n G P w b bv (SK D t i k) wx

def CheapEnd (D : Dic) (t : ByteArray) (lo hi : Nat) (w w' : World) (e : Ending) : Prop :=
  (∃ v l, e = .returned v ∧ IsBest D t lo hi l ∧ w'.ownsRow w.heap.size 3 1 v l.length (intCells l) ∧ l.length ≤ 500) ∧ Below w.heap.size w w'

theorem best_some {D : Dic} {t : ByteArray} {lo hi i : Nat} {f : Nat → Option BWay} (hD : Small D) (h : BestS D t lo hi (Sat D t i) f) (hlo : Edge t lo) (h1 : lo ≤ i) (h2 : i ≤ hi) (h3 : hi ≤ t.size) (he : Edge t i) :
    ∃ b, f i = some b ∧ Way D t lo i b.2 b.1 ∧ (∀ l c, Way D t lo i l c → bleq b (c, l)) ∧ b.1 ≤ 500000 * (i + 1) ∧ b.2.length + lo ≤ i := by
  obtain ⟨l, c, hw⟩ := way_exists (D := D) hlo i i (Nat.le_refl _) h1 (by omega) he
  have hb := h i h1 h2
  cases e : f i with
  | none =>
    rw [e] at hb
    exfalso
    refine hb (c, l) ?_
    cases hw with
    | nil => exact .inl ⟨rfl, rfl⟩
    | snoc k1 k2 => exact .inr ⟨_, _, _, _, k1, ⟨k2, (k2.lt hD).1⟩, rfl⟩
  | some b =>
    rw [e] at hb
    obtain ⟨a1, a2⟩ := hb.all hD
    have hf := a1.facts hD
    exact ⟨b, rfl, a1, a2, by omega, hf.1⟩

theorem next_le {t : ByteArray} {i hi p : Nat} (hhi : Edge t hi) (hi' : i < hi) (h : ∀ j, i < j → j < p → ¬ Edge t j) : p ≤ hi := by
  by_cases e : p ≤ hi
  · exact e
  · exact absurd hhi (h hi hi' (by omega))

theorem cheap_put2 {D : Dic} {t : ByteArray} {lo hi i n G P d c te : Nat} {w X X' : World} {b : BWay} {bv v : Value} {S S' : Nat → Nat → Nat → Prop} {f : Nat → Option BWay} {fo : Option BWay} (hD : Small D) (hte : lo + d = te) (hfo : fo = f te)
    (hB : BestW X G lo n f) (hS : BestS D t lo hi S f) (hfi : f i = some b) (hP : Cells3 X P (.bool true) (.int .i64 b.1) bv) (hbr : X.ownsRow (G + 1) 3 1 bv b.2.length (intCells b.2)) (hsw : Same w X) (hw : Way D t lo i b.2 b.1) (hb : ∀ l c, Way D t lo i l c → bleq b (c, l))
    (hX : Same X X') (hr : X'.ownsRow (G + 1) 3 1 v (stepW b c te fo).2.length (intCells (stepW b c te fo).2)) (hd : d ≤ n) (hd0 : 0 < d) (hi' : i ≠ lo + d) (hPG : P ≠ G) (hG : w.heap.size ≤ G)
    (hSS : ∀ q p' c', S' q p' c' ↔ S q p' c' ∨ (q = i ∧ p' = te ∧ c' = c)) :
    CheapIn D t lo hi i n G P w b bv S' (((X'.setCell ⟨G, d * 3, none⟩ (.bool true)).setCell ⟨G, d * 3 + 1, none⟩ (.int .i64 (stepW b c te fo).1)).setCell ⟨G, d * 3 + 2, none⟩ v) := by
  subst hte hfo
  exact cheap_put hD hB hS hfi hP hbr hsw hw hb hX hr hd hd0 hi' hPG hG hSS

theorem CheapIn.rel {D : Dic} {t : ByteArray} {lo hi i n P : Nat} {w X : World} {b : BWay} {bv x : Value} (h : CheapIn D t lo hi i n w.heap.size P w b bv (SK D t i D.length) X) (hli : lo ≤ i) (hih : i < hi) (hx : x = .int .i64 ((i + 1 : Nat) : Int)) : CheapRel D t lo hi n w (hi - (i + 1)) x X := by
  obtain ⟨f, h1, h2, _, _, _, h6⟩ := h
  exact ⟨i + 1, f, rfl, by omega, by omega, hx, h1, h2.congr SK_all, h6⟩

theorem same_behind {X X' : World} (h : Below X.drew.heap.size X.drew X') : Same X X' := Kept.trans (Kept.drew (Same.refl X)) (Kept.of_below h (fun _ => False)) fun _ e => e.elim
theorem same_frz {X X' : World} {G : Nat} (hs : Same X X') (hG : G + 1 ≤ X.heap.size) (h : ∀ o, X.frozen? ⟨G, o, none⟩ = false) : ∀ o, X'.frozen? ⟨G, o, none⟩ = false := fun o => (Kept.frozen hs (p := ⟨G, o, none⟩) hG id).trans (h o)

set_option maxHeartbeats 8000000 in
set_option maxRecDepth 100000 in
theorem cheapest_any (w : World) (B : Nat) (D : Dic) (Wv Cv : Value) (hB : BookAt w B D Wv Cv) (hD : Small D) (t : ByteArray) (ht : t.size ≤ 500) (lo hi : Nat) (hlh : lo < hi) (hht : hi ≤ t.size) (hlo : Edge t lo) (hhi : Edge t hi)
    (hin : ∀ i k, lo ≤ i → i < hi → k < D.length → Stands t i (wd D k) → i + (wd D k).size ≤ hi) :
    Calls Tryz.prog 84 #[.pointer (some ⟨B, 0, none⟩), .string t, .int .i64 lo, .int .i64 hi] w fun e w' => CheapEnd D t lo hi w w' e := by
  obtain ⟨iw, hiw, hw0, hw1, hw2⟩ := info_parts Tryz.infoWay
  obtain ⟨n, hn⟩ : ∃ n, n = hi - lo := ⟨_, rfl⟩
  obtain ⟨m, hm⟩ : ∃ m, m = n + 1 := ⟨_, rfl⟩
  have hn1 : (hi : Int) - (lo : Int) = (n : Int) := by omega
  have hm1 : (n : Int) + 1 = (m : Int) := by omega
  have hm9 : m ≤ 501 := by omega
  have hm0 : 0 < m := by omega
  have hwn : IntKind.i64.wrap (n : Int) = (n : Int) := by rw [IntKind.wrap_i64]; omega
  have hwm : IntKind.i64.wrap (m : Int) = (m : Int) := by rw [IntKind.wrap_i64]; omega
  have hm0' : (0 : Int) < (m : Int) := by omega
  obtain ⟨pw, capw, rfl, _⟩ := row_form hB.ow
  obtain ⟨pc, capc, rfl, _⟩ := row_form hB.oc
  have HB : Hid (BookAt w B D (.slice pw D.length capw) (.slice pc D.length capc)) := hB
  have HD : Hid (Small D) := hD
  have hD150 := hD.1
  have HLO : Hid (Edge t lo) := hlo
  have HHI : Hid (Edge t hi) := hhi
  have HIN : Hid (∀ i k, lo ≤ i → i < hi → k < D.length → Stands t i (wd D k) → i + (wd D k).size ≤ hi) := hin
  have HM : Hid (m = n + 1) := hm
  have HN : Hid (n = hi - lo) := hn
  have hb1 : iw.bytes * m ≤ 281474976710656 := by rw [hw2]; omega
  have hb2 : m ≤ maxLen := by unfold maxLen; omega
  clear hB hD hlo hhi hin hm hn
  go_enter Tryz.func84, Tryz.ntmps84
  go_wp2_with (at_make; refine wpList_make_full _ rfl (.tmp 19) (.tmp 19) 164 rfl w.heap.size 166 iw _ 3 Tryz.underlying164 hiw hw0 hw1 .i64 .i64 _ _ m rfl rfl rfl rfl hb1 hb2 (Nat.le_refl _) ?_)
  intro w1 hown hgrow
  have hsame1 : Same w w1 := (Kept.refl w _).grown hgrow (fun k hk => by cases hk)
  have HB0 : Hid (BestW (w1.setCell ⟨w.heap.size, 0, none⟩ (.bool true)) w.heap.size lo n (fun p => if p = lo then some (0, []) else none)) := BestW.start HM.out hown
  have HS0 : Hid (Same w (w1.setCell ⟨w.heap.size, 0, none⟩ (.bool true))) := Kept.setCell hsame1 _ _ (.inr (Nat.le_refl _))
  have hf0 := hown.frozenAt 0
  have hc0 : w1.cell? ⟨w.heap.size, 0, none⟩ = some (.bool false) := by
    have := (made_at (.bool false) (.int .i64 0) (.slice none 0 0) m 0 hm0).1
    rw [← this]
    exact hown.cellAt (0 * 3) (by omega)
  clear hown hgrow hsame1
  go_wp2_with fail
  clear hf0 hc0
  go_loopg [10] n (fun g x wr => CheapRel D t lo hi n w g x wr)
  case atStart => exact ⟨lo, _, HN.out, Nat.le_refl _, by omega, rfl, HB0.out, best_start D t lo hi HD.out, HS0.out⟩
  case round =>
    obtain ⟨i, f, rfl, hli, hih, rfl, hBW, hBS, hsm⟩ := hrel
    have HBW : Hid (BestW wr w.heap.size lo n f) := hBW
    have HBS : Hid (BestS D t lo hi (Sat D t i) f) := hBS
    have HSM : Hid (Same w wr) := hsm
    clear hBW hBS hsm
    by_cases hlt : i < hi
    · have hlt' : (i : Int) < (hi : Int) := by omega
      have hit : i ≤ t.size := by omega
      by_cases he : Edge t i
      · have hd : decide (Edge t i) = true := decide_eq_true he
        obtain ⟨b, hfi, hway, hbest, hbc, hbl⟩ := best_some HD.out HBS.out HLO.out hli hih hht he
        have HE : Hid (Edge t i) := he
        have HFI : Hid (f i = some b) := hfi
        have HWAY : Hid (Way D t lo i b.2 b.1) := hway
        have HBEST : Hid (∀ l c, Way D t lo i l c → bleq b (c, l)) := hbest
        obtain ⟨d, hdd⟩ : ∃ d, d = i - lo := ⟨_, rfl⟩
        have hdi : lo + d = i := by omega
        have hdn : d ≤ n := by have := HN.out; omega
        have hd1 : (i : Int) - (lo : Int) = (d : Int) := by omega
        have hwd : IntKind.i64.wrap (d : Int) = (d : Int) := by rw [IntKind.wrap_i64]; omega
        have hdm : (d : Int) < (m : Int) := by have := HM.out; omega
        have hbl5 : b.2.length ≤ 900 := by omega
        have hb15 : b.1 ≤ 1000000 := by have := hway.facts HD.out; omega
        obtain ⟨hx0, hx1, bv, hx2, hbr⟩ := HBW.out.cell d hdn
        rw [hdi, hfi] at hx0 hx1 hbr
        simp only [Option.isSome, wCost, wList] at hx0 hx1 hbr
        obtain ⟨ab, cb, rfl, _⟩ := row_form hbr
        have HBR : Hid (wr.ownsRow (w.heap.size + 1) 3 1 (.slice ab b.2.length cb) b.2.length (intCells b.2)) := hbr
        have hGlt : w.heap.size < wr.heap.size := HBW.out.lt
        obtain ⟨e1, he1⟩ : ∃ e1, e1 = i + 1 := ⟨_, rfl⟩
        have HE1 : Hid (e1 = i + 1) := he1
        have hi11 : (i : Int) + 1 = (e1 : Int) := by omega
        have hwe1 : IntKind.i64.wrap (e1 : Int) = (e1 : Int) := by rw [IntKind.wrap_i64]; omega
        clear he1 he hfi hway hbest hbc hbr hdd
        go_wp2_with fail
        refine (edge_any t i _ ht hit).mono ?_
        rintro e wr ⟨rfl, rfl⟩
        rw [hd]
        go_wp2_with fail
        clear hx0 hx1 hx2 hdm hwd hd1 hwe1 hi11 hwm hwn hn1 hm1
        obtain ⟨P, hP⟩ : ∃ P, P = wr.heap.size := ⟨_, rfl⟩
        have HPG : Hid (P ≠ w.heap.size) := by show P ≠ _; omega
        have HCELL : Hid (Cells3 (wr.alloc (.cells #[.bool true, .int .i64 b.1, .slice ab b.2.length cb] 166)) P (.bool true) (.int .i64 b.1) (.slice ab b.2.length cb)) := Cells3.new _ _ _ _ _ _ hP
        have hS1 : Same wr (wr.alloc (.cells #[.bool true, .int .i64 b.1, .slice ab b.2.length cb] 166)) := (Same.refl wr).alloc _
        have HS1 : Hid (Same wr (wr.alloc (.cells #[.bool true, .int .i64 b.1, .slice ab b.2.length cb] 166))) := hS1
        rw [← hP]
        generalize hW1 : wr.alloc (.cells #[.bool true, .int .i64 b.1, .slice ab b.2.length cb] 166) = W1 at HCELL HS1 ⊢
        clear hW1 hS1 hP
        have HBW1 : Hid (BestW W1 w.heap.size lo n f) := HBW.out.same HS1.out
        have HBR1 : Hid (W1.ownsRow (w.heap.size + 1) 3 1 (.slice ab b.2.length cb) b.2.length (intCells b.2)) := HS1.out.row HBR.out
        have HSM1 : Hid (Same w W1) := Kept.trans HSM.out HS1.out fun _ e => e.elim
        clear HBW HBR HSM HS1
        go_loopg [13] (hi - e1) (fun g x wx => NextE t i hi g W1 x wx)
        case atStart => exact ⟨e1, rfl, by have := HE1.out; omega, by have := HE1.out; omega, rfl, fun j a b => by have := HE1.out; omega, rfl⟩
        case round =>
          obtain ⟨te, rfl, hte1, hte2, rfl, hte3, rfl⟩ := hrel
          have HTE : Hid (∀ j, i < j → j < te → ¬ Edge t j) := hte3
          have htt : te ≤ t.size := by omega
          clear hte3
          by_cases hee : Edge t te
          · have hde : decide (Edge t te) = true := decide_eq_true hee
            have HST : Hid (StepC t i te 500) := ⟨HE.out, hte1, htt, hee, HTE.out, rfl⟩
            clear hee
            go_wp2_with fail
            refine (edge_any t te _ ht htt).mono ?_
            rintro e wr ⟨rfl, rfl⟩
            rw [hde]
            obtain ⟨dt, hdt⟩ : ∃ dt, dt = te - lo := ⟨_, rfl⟩
            have hdte : lo + dt = te := by omega
            have hdt0 : 0 < dt := by omega
            have hdtn : dt ≤ n := by have := HN.out; omega
            have hdt1 : (te : Int) - (lo : Int) = (dt : Int) := by omega
            have hwdt : IntKind.i64.wrap (dt : Int) = (dt : Int) := by rw [IntKind.wrap_i64]; omega
            have hdtm : (dt : Int) < (m : Int) := by have := HM.out; omega
            have hte9 : te ≤ 1000 := by omega
            have h500 : 500 ≤ 1000 := by decide
            have hite : i ≠ lo + dt := by omega
            obtain ⟨hol, hoc⟩ := HBS.out.bounds HD.out (fun q p c h => h.1) (by omega) (p := te) (by omega) hte2
            have hol : (wList (f te)).length ≤ 1000 := by omega
            obtain ⟨hy0, hy1, ov, hy2, hor⟩ := HBW1.out.cell dt hdtn
            rw [hdte] at hy0 hy1 hor
            obtain ⟨ao, co, rfl, _⟩ := row_form hor
            have HOR : Hid (wr.ownsRow (w.heap.size + 1) 3 1 (.slice ao (wList (f te)).length co) (wList (f te)).length (intCells (wList (f te)))) := hor
            have hfz := HBW1.out.fz
            have hPc0 := HCELL.out.c0
            have hPc1 := HCELL.out.c1
            have hPc2 := HCELL.out.c2
            have hGs : w.heap.size + 1 ≤ wr.heap.size := HBW1.out.lt
            have HDT : Hid (lo + dt = te) := hdte
            have hSd : Same wr wr.drew := Kept.drew (Same.refl wr)
            have HSD : Hid (Same wr wr.drew) := hSd
            obtain ⟨fo, hfo⟩ : ∃ fo, fo = f te := ⟨_, rfl⟩
            rw [← hfo] at hy0 hy1 hy2 HOR hol
            have HFO : Hid (fo = f te) := hfo
            clear hdt hdte hor hSd hoc hfo hte1 hdt0
            have HDT0 : Hid (0 < dt) := by show 0 < dt; have := HDT.out; have := HST.out.2.1; omega
            go_upto_region 12 with fail
            go_cut [13] (fun x wx => x = .int .i64 te ∧ CheapIn D t lo hi i n w.heap.size P w b (.slice ab b.2.length cb) (SK D t i 0) wx)
            case first =>
              go_region_with (go_at_call 100; go_must (refine (step_any wr.drew (w.heap.size + 1) hGs b _ (HSD.out.row HBR1.out) fo _ (HSD.out.row HOR.out) 500 te hb15 hbl5 hol h500 hte9).mono ?_); rintro e w2 ⟨⟨v, rfl, hrv⟩, hbw2⟩; obtain ⟨av, cv, rfl, _⟩ := row_form hrv; have hsw2 := same_behind hbw2; have hq0 := hsw2.cell hy0; have hq1 := hsw2.cell hy1; have hq2 := hsw2.cell hy2; have hqz := same_frz hsw2 hGs hfz)
              all_goals
                have HC : Hid (CheapIn D t lo hi i n w.heap.size P w b (.slice ab b.2.length cb) (SK D t i 0) (((w2.setCell ⟨w.heap.size, dt * 3, none⟩ (.bool true)).setCell ⟨w.heap.size, dt * 3 + 1, none⟩ (.int .i64 (stepW b 500 te fo).1)).setCell ⟨w.heap.size, dt * 3 + 2, none⟩ (.slice av (stepW b 500 te fo).2.length cv))) :=
                  cheap_put2 HD.out HDT.out HFO.out HBW1.out HBS.out HFI.out HCELL.out HBR1.out HSM1.out HWAY.out HBEST.out hsw2 hrv hdtn HDT0.out hite HPG.out (Nat.le_refl _) (SK_zero HST.out)
                clear hrv hbw2 hsw2 hq0 hq1 hq2 hqz
                go_wp2_with fail
                go_meet
                exact ⟨rfl, HC.out⟩
            case rest =>
              obtain ⟨rfl, hci⟩ := hcut
              have HCI : Hid (CheapIn D t lo hi i n w.heap.size P w b (.slice ab b.2.length cb) (SK D t i 0) wc) := hci
              clear hci hy0 hy1 hy2 hfz hPc0 hPc1 hPc2 hwdt hdt1 hdtm HOR HCELL HBW1 HBR1 HSM1 HFO HSD hGs
              go_wp2_with fail
              go_loopg [14] D.length (fun g y wx => KRel D t lo hi i n w.heap.size P w b (.slice ab b.2.length cb) g y wx)
              case atStart => exact ⟨0, rfl, Nat.zero_le _, rfl, HCI.out⟩
              case round =>
                obtain ⟨k, rfl, hk, rfl, hci⟩ := hrel
                have HCK : Hid (CheapIn D t lo hi i n w.heap.size P w b (.slice ab b.2.length cb) (SK D t i k) wr) := hci
                have hsmk : Same w wr := by obtain ⟨_, _, _, _, _, _, h⟩ := hci; exact h
                have HBK : Hid (BookAt wr B D (.slice pw D.length capw) (.slice pc D.length capc)) := hsmk.book HB.out
                have hbk0 := HBK.out.c0
                clear hci hsmk HCI
                by_cases hkl : k < D.length
                · have hkl' : (k : Int) < (D.length : Int) := by omega
                  by_cases hs : Stands t i (wd D k)
                  · have hds : decide (Stands t i (wd D k)) = true := decide_eq_true hs
                    obtain ⟨f2, q1, q2, q3, q4, q5, q6⟩ := HCK.out
                    obtain ⟨gw, gc, capw', capc', hWe, hCe, _, hbk1, hwk, hck⟩ := HBK.out.word hkl
                    cases hWe
                    cases hCe
                    obtain ⟨hxs1, hxs2, hct⟩ := HD.out.at hkl
                    have hle := HIN.out i k hli hlt hkl hs
                    obtain ⟨c, hc⟩ : ∃ c, c = ct D k := ⟨_, rfl⟩
                    obtain ⟨tk, htk⟩ : ∃ tk, tk = i + (wd D k).size := ⟨_, rfl⟩
                    obtain ⟨dk, hdk⟩ : ∃ dk, dk = tk - lo := ⟨_, rfl⟩
                    have HTK : Hid (tk = i + (wd D k).size) := htk
                    have HCC : Hid (c = ct D k) := hc
                    rw [← hc] at hck hct
                    have htk1 : (i : Int) + ((wd D k).size : Int) = (tk : Int) := by omega
                    have hwtk : IntKind.i64.wrap (tk : Int) = (tk : Int) := by rw [IntKind.wrap_i64]; omega
                    have hdk1 : (tk : Int) - (lo : Int) = (dk : Int) := by omega
                    have hwdk : IntKind.i64.wrap (dk : Int) = (dk : Int) := by rw [IntKind.wrap_i64]; omega
                    have hdkm : (dk : Int) < (m : Int) := by have := HM.out; have := HN.out; omega
                    have hdkn : dk ≤ n := by have := HN.out; omega
                    have HDK0 : Hid (0 < dk) := by show 0 < dk; omega
                    have HDK : Hid (lo + dk = tk) := by show lo + dk = tk; omega
                    have hik : i ≠ lo + dk := by omega
                    have htk9 : tk ≤ 1000 := by omega
                    have hol2 : (wList (f2 tk)).length ≤ 1000 := by
                      have := (q2.bounds HD.out (fun _ _ _ h => h.step) (by omega) (p := tk) (by omega) (by omega)).1
                      omega
                    obtain ⟨hy0, hy1, ov, hy2, hor⟩ := q1.cell dk hdkn
                    rw [HDK.out] at hy0 hy1 hor
                    obtain ⟨ao2, co2, rfl, _⟩ := row_form hor
                    obtain ⟨fk, hfk⟩ : ∃ fk, fk = f2 tk := ⟨_, rfl⟩
                    have HFK : Hid (fk = f2 tk) := hfk
                    rw [← hfk] at hy0 hy1 hy2 hor hol2
                    have HOR2 : Hid (wr.ownsRow (w.heap.size + 1) 3 1 (.slice ao2 (wList fk).length co2) (wList fk).length (intCells (wList fk))) := hor
                    have HBR2 : Hid (wr.ownsRow (w.heap.size + 1) 3 1 (.slice ab b.2.length cb) b.2.length (intCells b.2)) := q5
                    have hfz := q1.fz
                    have hPc0 := q4.c0
                    have hPc1 := q4.c1
                    have hPc2 := q4.c2
                    have hGs : w.heap.size + 1 ≤ wr.heap.size := q1.lt
                    have HSD : Hid (Same wr wr.drew) := Kept.drew (Same.refl wr)
                    have HQ1 : Hid (BestW wr w.heap.size lo n f2) := q1
                    have HQ2 : Hid (BestS D t lo hi (SK D t i k) f2) := q2
                    have HQ3 : Hid (f2 i = some b) := q3
                    have HQ4 : Hid (Cells3 wr P (.bool true) (.int .i64 b.1) (.slice ab b.2.length cb)) := q4
                    have HQ6 : Hid (Same w wr) := q6
                    have HSY : Hid (∀ q p' c', SK D t i (k + 1) q p' c' ↔ SK D t i k q p' c' ∨ (q = i ∧ p' = tk ∧ c' = c)) := by
                      intro q p' c'
                      rw [HTK.out, HCC.out]
                      exact SK_yes hkl hs q p' c'
                    clear q1 q2 q3 q4 q5 q6 hor hfk hdk htk hc hs hle
                    go_wp2_with fail
                    refine (stands_any _ B D _ _ HBK.out HD.out t i k ht hit hkl).mono ?_
                    rintro e wr ⟨rfl, rfl⟩
                    rw [hds]
                    go_upto_region 19 with fail
                    go_region_with (go_at_call 100; go_must (refine (step_any wr.drew (w.heap.size + 1) hGs b _ (HSD.out.row HBR2.out) fk _ (HSD.out.row HOR2.out) c tk hb15 hbl5 hol2 hct htk9).mono ?_); rintro e w2 ⟨⟨v, rfl, hrv⟩, hbw2⟩; obtain ⟨av, cv, rfl, _⟩ := row_form hrv; have hsw2 := same_behind hbw2; have hq0 := hsw2.cell hy0; have hq1 := hsw2.cell hy1; have hq2 := hsw2.cell hy2; have hqz := same_frz hsw2 hGs hfz)
                    all_goals
                      have hci : CheapIn D t lo hi i n w.heap.size P w b (.slice ab b.2.length cb) (SK D t i (k + 1)) (((w2.setCell ⟨w.heap.size, dk * 3, none⟩ (.bool true)).setCell ⟨w.heap.size, dk * 3 + 1, none⟩ (.int .i64 (stepW b c tk fk).1)).setCell ⟨w.heap.size, dk * 3 + 2, none⟩ (.slice av (stepW b c tk fk).2.length cv)) :=
                        cheap_put2 HD.out HDK.out HFK.out HQ1.out HQ2.out HQ3.out HQ4.out HBR2.out HQ6.out HWAY.out HBEST.out hsw2 hrv hdkn HDK0.out hik HPG.out (Nat.le_refl _) HSY.out
                      have HN2 : Hid (KRel D t lo hi i n w.heap.size P w b (.slice ab b.2.length cb) (D.length - (k + 1)) (.int .i64 ((k : Int) + 1)) (((w2.setCell ⟨w.heap.size, dk * 3, none⟩ (.bool true)).setCell ⟨w.heap.size, dk * 3 + 1, none⟩ (.int .i64 (stepW b c tk fk).1)).setCell ⟨w.heap.size, dk * 3 + 2, none⟩ (.slice av (stepW b c tk fk).2.length cv))) := ⟨k + 1, rfl, hkl, by go_num, hci⟩
                      clear hci hrv hbw2 hsw2 hq0 hq1 hq2 hqz
                      clear hy0 hy1 hy2 hfz hPc0 hPc1 hPc2 hwdk hdk1 hdkm hwtk htk1 HOR2 HBR2 HQ1 HQ2 HQ3 HQ4 HQ6 HFK HSD hGs hwk hck hbk0 hbk1 HBK HCK
                      go_wp2_with fail
                      go_roundg (D.length - (k + 1))
                      case measure => exact Nat.sub_lt_sub_left hkl (Nat.lt_succ_self k)
                      case rel => exact HN2.out
                  · have hds : decide (Stands t i (wd D k)) = false := decide_eq_false hs
                    have HN2 : Hid (KRel D t lo hi i n w.heap.size P w b (.slice ab b.2.length cb) (D.length - (k + 1)) (.int .i64 ((k : Int) + 1)) wr) := ⟨k + 1, rfl, hkl, by go_num, HCK.out.same (Same.refl _) (SK_no hs)⟩
                    clear hs
                    go_wp2_with fail
                    refine (stands_any _ B D _ _ HBK.out HD.out t i k ht hit hkl).mono ?_
                    rintro e wr ⟨rfl, rfl⟩
                    rw [hds]
                    go_wp2_with fail
                    go_roundg (D.length - (k + 1))
                    case measure => exact Nat.sub_lt_sub_left hkl (Nat.lt_succ_self k)
                    case rel => exact HN2.out
                · obtain rfl : k = D.length := by omega
                  have HN2 : Hid (CheapRel D t lo hi n w (hi - (i + 1)) (.int .i64 ((i : Int) + 1)) wr) := HCK.out.rel hli hlt (by go_num)
                  go_wp2_with fail
                  go_roundg (hi - (i + 1))
                  case measure => exact Nat.sub_lt_sub_left hlt (Nat.lt_succ_self i)
                  case rel => exact HN2.out
          · have hde : decide (Edge t te) = false := decide_eq_false hee
            have hlt2 : te < hi := by
              rcases Nat.lt_or_ge te hi with h | h
              · exact h
              · exact absurd HHI.out (by rw [show hi = te by omega]; exact hee)
            have HTE2 : Hid (∀ j, i < j → j < te + 1 → ¬ Edge t j) := fun j h1 h2 => by
              by_cases e : j = te
              · subst e; exact hee
              · exact HTE.out j h1 (by omega)
            clear hee
            go_wp2_with fail
            refine (edge_any t te _ ht htt).mono ?_
            rintro e W1 ⟨rfl, rfl⟩
            rw [hde]
            go_wp2_with fail
            go_roundg (hi - (te + 1))
            case measure => omega
            case rel => exact ⟨te + 1, rfl, by omega, by omega, by go_num, HTE2.out, rfl⟩
      · have hd : decide (Edge t i) = false := decide_eq_false he
        have HN2 : Hid (CheapRel D t lo hi n w (hi - (i + 1)) (.int .i64 ((i : Int) + 1)) wr) := ⟨i + 1, f, rfl, by omega, by omega, by go_num, HBW.out, HBS.out.congr (Sat_skip he), HSM.out⟩
        clear he
        go_wp2_with fail
        refine (edge_any t i _ ht hit).mono ?_
        rintro e w' ⟨rfl, rfl⟩
        rw [hd]
        go_wp2_with fail
        go_roundg (hi - (i + 1))
        case measure => omega
        case rel => exact HN2.out
    · obtain rfl : i = hi := by omega
      obtain ⟨b, hfi, hway, hbest, hbc, hbl⟩ := best_some HD.out HBS.out HLO.out hli hih hht HHI.out
      have hdi : lo + n = i := by have := HN.out; omega
      have hdm : (n : Int) < (m : Int) := by have := HM.out; omega
      obtain ⟨hx0, hx1, bv, hx2, hbr⟩ := HBW.out.cell n (Nat.le_refl _)
      rw [hdi, hfi] at hx0 hx1 hbr
      simp only [Option.isSome, wCost, wList] at hx0 hx1 hbr
      obtain ⟨ab, cb, rfl, _⟩ := row_form hbr
      have HEND : Hid (CheapEnd D t lo i w wr (.returned (.slice ab b.2.length cb))) := ⟨⟨_, b.2, rfl, ⟨b.1, hway, fun l' c' h' => hbest l' c' h'⟩, row_base hbr (by omega), by omega⟩, HSM.out.below (Below.refl _ _) (Nat.le_refl _)⟩
      clear hfi hway hbest hbc hbr hbl
      go_wp2_with fail
      go_ret
      exact HEND.out

end Go.Proofs.YtlfpepehngkehaaGreat
/-
  Walks: the reference's Cut.
-/
namespace Go.Proofs.YtlfpepehngkehaaGreat
set_option linter.unusedSimpArgs false
set_option linter.unusedVariables false
open Go.RowKit

/-- where the loop over the text is. -/
def CutRel (D : Dic) (t : ByteArray) (w : World) (g : Nat) (o x y : Value) (wr : World) : Prop :=
  ∃ (lo h : Nat) (l : List Nat), g = t.size + 1 - h ∧ lo < h ∧ h ≤ t.size + 1 ∧ x = .int .i64 lo ∧ y = .int .i64 h ∧ CutTo D t lo l ∧ (lo = 0 ∨ IsEnd t lo) ∧ (∀ j, lo < j → j < h → ¬ IsEnd t j) ∧
    wr.ownsRow w.heap.size 3 1 o l.length (intCells l) ∧ Below w.heap.size w wr

def AheadLoop (D : Dic) (t : ByteArray) (w : World) (lo hi : Nat) (l : List Nat) (g : Nat) (o x : Value) (wr : World) : Prop :=
  ∃ (i : Nat) (l1 : List Nat), g = hi - i ∧ lo ≤ i ∧ i ≤ hi ∧ x = .int .i64 i ∧ (∀ r, AheadRun D t hi i r → AheadRun D t hi lo (l1 ++ r)) ∧ l1.length + lo ≤ i ∧ wr.ownsRow w.heap.size 3 1 o (l ++ l1).length (intCells (l ++ l1)) ∧ Below w.heap.size w wr

def CutEnd (D : Dic) (t : ByteArray) (w w' : World) (e : Ending) : Prop :=
  (∃ v l, e = .returned (.tuple #[v, .int .i64 0]) ∧ CutTo D t t.size l ∧ w'.ownsRow w.heap.size 3 1 v l.length (intCells l)) ∧ Below w.heap.size w w'

theorem CutRel.next {D : Dic} {t : ByteArray} {w w' : World} {lo h : Nat} {l l1 : List Nat} {o x y : Value} (hc : CutTo D t lo l) (hr : RunAt t lo h) (h1 : RunCut D t lo h l1) (hx : x = .int .i64 h) (hy : y = .int .i64 ((h + 1 : Nat) : Int)) (hrow : w'.ownsRow w.heap.size 3 1 o (l ++ l1).length (intCells (l ++ l1))) (hb : Below w.heap.size w w') :
    CutRel D t w (t.size + 1 - (h + 1)) o x y w' :=
  ⟨h, h + 1, l ++ l1, rfl, by omega, by have := hr.2.1; omega, hx, hy, .run hc hr h1, .inr hr.2.2.2.1, fun j a b => by omega, hrow, hb⟩

theorem own_one (w : World) (x : Value) (t : TypeId) : (w.alloc (.cells #[x] t)).ownsRow w.heap.size t 1 (.slice (some ⟨w.heap.size, 0, none⟩) 1 1) 1 [x] := by
  refine ⟨rfl, .inr ⟨w.heap.size, 1, #[x], rfl, Nat.le_refl _, ?_, Nat.le_refl _, by unfold maxLen; omega, rfl, rfl⟩⟩
  show (w.heap.push _)[w.heap.size]? = _
  simp

theorem AheadLoop.next {D : Dic} {t : ByteArray} {w w' : World} {lo hi i p : Nat} {l l1 : List Nat} {o x : Value} (hli : lo ≤ i) (hih : i < hi) (hp : i < p ∧ p ≤ hi) (hpre : ∀ r, AheadRun D t hi i r → AheadRun D t hi lo (l1 ++ r)) (hok : AheadOk D t i hi p) (hl : l1.length + lo ≤ i) (hx : x = .int .i64 p)
    (hrow : w'.ownsRow w.heap.size 3 1 o ((l ++ l1).length + 1) (intCells (l ++ l1) ++ [.int .i64 p])) (hb : Below w.heap.size w w') : AheadLoop D t w lo hi l (hi - p) o x w' := by
  refine ⟨p, l1 ++ [p], rfl, by omega, hp.2, hx, fun r hr => ?_, by simp; omega, ?_, hb⟩
  · have := hpre (p :: r) (.step hih hok hr)
    simpa using this
  · have e1 : l ++ (l1 ++ [p]) = (l ++ l1) ++ [p] := by simp
    rw [e1, intCells_append, List.length_append]
    exact hrow

theorem AheadLoop.fin {D : Dic} {t : ByteArray} {w w' : World} {lo hi : Nat} {l l1 : List Nat} {o x y : Value} (hc : CutTo D t lo l) (hr : RunAt t lo hi) (hs : sortC (bt t lo) = 99) (hpre : ∀ r, AheadRun D t hi hi r → AheadRun D t hi lo (l1 ++ r)) (hx : x = .int .i64 hi) (hy : y = .int .i64 ((hi + 1 : Nat) : Int))
    (hrow : w'.ownsRow w.heap.size 3 1 o (l ++ l1).length (intCells (l ++ l1))) (hb : Below w.heap.size w w') : CutRel D t w (t.size + 1 - (hi + 1)) o x y w' := by
  have := hpre [] .done
  rw [List.append_nil] at this
  exact CutRel.next hc hr (.inr (.inl ⟨hs, this⟩)) hx hy hrow hb

theorem grown_below {w w2 w3 : World} {o : Value} {n : Nat} {xs : List Value} {t : TypeId} (hb : Below w.heap.size w w2) (hg : w2.grownBy w3 o.ownBlock) (hrow : w2.ownsRow w.heap.size t 1 o n xs) : Below w.heap.size w w3 :=
  hb.grown hg hb.size (fun g hg' => (hrow.lt g hg').1)

theorem run_in {D : Dic} {t : ByteArray} {lo h : Nat} (hD : GoodDic D) (hr : RunAt t lo h) : ∀ i k, lo ≤ i → i < h → k < D.length → Stands t i (wd D k) → i + (wd D k).size ≤ h := fun i k _ h2 h3 h4 =>
  stands_run (by rw [wd_eq h3]; exact (hD.2.2 _ (List.getElem_mem h3)).1) h4 h2 hr.2.2.2.1

set_option maxHeartbeats 8000000 in
set_option maxRecDepth 100000 in
theorem refCut_any (w : World) (B : Nat) (D : Dic) (Wv Cv : Value) (hB : BookAt w B D Wv Cv) (hD : GoodDic D) (t : ByteArray) (ht : t.size ≤ 500) :
    Calls Tryz.prog 61 #[.pointer (some ⟨B, 0, none⟩), .string t] w fun e w' => CutEnd D t w w' e := by
  obtain ⟨ii, hii, hi0, hi1, hi2⟩ := info_parts Tryz.infoIntE
  have ht' : ¬ (500 : Int) < (t.size : Int) := by omega
  have HB : Hid (BookAt w B D Wv Cv) := hB
  have HD : Hid (GoodDic D) := hD
  have HDS : Hid (Small D) := hD.small
  clear hB hD
  go_enter Tryz.func61, Tryz.ntmps61
  go_wp2_with fail
  go_loopg [6, 7, 8] t.size (fun g o x y wr => CutRel D t w g o x y wr)
  case atStart => exact ⟨0, 1, [0], by omega, by omega, by omega, rfl, rfl, .zero, .inl rfl, fun j a b => by omega, own_one _ _ _, (Below.refl _ _).alloc (Nat.le_refl _) _⟩
  case round =>
    obtain ⟨lo, h, l, rfl, hlh, hh, rfl, rfl, hcut, hlo, hno, hrow, hbel⟩ := hrel
    have HC : Hid (CutTo D t lo l) := hcut
    have HLO : Hid (lo = 0 ∨ IsEnd t lo) := hlo
    have HNO : Hid (∀ j, lo < j → j < h → ¬ IsEnd t j) := hno
    obtain ⟨ao, co, rfl, _⟩ := row_form hrow
    have HROW : Hid (wr.ownsRow w.heap.size 3 1 (.slice ao l.length co) l.length (intCells l)) := hrow
    have HBEL : Hid (Below w.heap.size w wr) := hbel
    have HBK : Hid (BookAt wr B D Wv Cv) := Same.book (Kept.of_below hbel (fun _ => False)) HB.out
    have hsz := hbel.size
    have hll : l.length ≤ 501 := by have := hcut.len HD.out; omega
    clear hcut hlo hno hrow hbel
    by_cases hhs : h ≤ t.size
    · have hhs' : (h : Int) ≤ (t.size : Int) := by omega
      by_cases hE : IsEnd t h
      · have HRUN : Hid (RunAt t lo h) := ⟨hlh, hhs, HLO.out, hE, HNO.out⟩
        have hlos : lo < t.size := by omega
        have hbt := bt_get t lo hlos
        have hblt := bt_lt t lo
        go_upto_if 25 with fail
        go_cut [7] (fun x wx => x = .int .i64 lo ∧ wx = wr)
        case first =>
          by_cases hlt : h < t.size
          · have hlt' : (h : Int) < (t.size : Int) := by omega
            have hd : decide (Parts t h) = true := decide_eq_true (by rcases hE with e | e; omega; exact e)
            have h0 : 0 < h := by omega
            clear hE
            go_wp2_with fail
            refine (parts_any t h _ ht hlt h0).mono ?_
            rintro e wr ⟨rfl, rfl⟩
            rw [hd]
            go_wp2_with fail
            go_meet
            exact ⟨rfl, rfl⟩
          · have hlt' : ¬ (h : Int) < (t.size : Int) := by omega
            clear hE
            go_wp2_with fail
            go_meet
            exact ⟨rfl, rfl⟩
        case rest =>
          obtain ⟨rfl, rfl⟩ := hcut
          clear hE
          have hm0 : l.length + 1 ≤ maxLen := by unfold maxLen; omega
          have hm1 : (l.length + 1) * 8 ≤ 140737488355328 := by omega
          have hsz1 : w.heap.size ≤ wc.heap.size + 1 := by omega
          by_cases hs : sortC (bt t lo) = 115
          · have hsv : ((sortC (bt t lo) : Nat) : Int) = 115 := by omega
            have HS : Hid (sortC (bt t lo) = 115) := hs
            clear hs
            go_wp2_with fail
            refine (sort_any (bt t lo) _ hblt).mono ?_
            rintro e wc ⟨rfl, rfl⟩
            rw [hsv]
            go_wp2_with fail
            refine (cheapest_any wc B D Wv Cv HBK.out HDS.out t ht lo h hlh hhs HRUN.out.edges.1 HRUN.out.edges.2 (run_in HD.out HRUN.out)).mono ?_
            rintro e w2 ⟨⟨v, l1, rfl, hbest, hrow1, hl1⟩, hbw2⟩
            have hrow2 : w2.ownsRow w.heap.size 3 1 (.slice ao l.length co) l.length (intCells l) := ownsRow_below' HROW.out hbw2
            have hb2 : Below w.heap.size w w2 := HBEL.out.trans (hbw2.mono hsz)
            have HBEST : Hid (IsBest D t lo h l1) := hbest
            have HROW1 := hrow1
            clear hbest hbw2
            obtain ⟨_, hsh⟩ := hrow1
            rcases hsh with ⟨rfl, h0⟩ | ⟨g, cp, cur, rfl, _⟩
            · have hl0 : l1 = [] := List.eq_nil_of_length_eq_zero h0
              subst hl0
              have HN2 : Hid (CutRel D t w (t.size + 1 - (h + 1)) (.slice ao l.length co) (.int .i64 h) (.int .i64 ((h : Int) + 1)) w2) := CutRel.next HC.out HRUN.out (.inl ⟨HS.out, HBEST.out⟩) rfl (by go_num) (by simpa using hrow2) hb2
              clear HROW1
              go_wp2_with (at_builtin; refine wpList_append_own_none rfl _ _ 48 rfl w.heap.size 3 ii 1 Tryz.underlying48 hii _ _ _ rfl hrow2 rfl ?_)
              go_roundg (t.size + 1 - (h + 1))
              case measure => omega
              case rel => exact HN2.out
            · have hm2 : l.length + l1.length ≤ maxLen := by unfold maxLen; omega
              have hm3 : (l.length + l1.length) * 8 ≤ 140737488355328 := by omega
              have hb2s := hb2.size
              go_wp2_with (at_builtin; refine wpList_append_own _ rfl _ _ 48 rfl w.heap.size 3 ii _ 1 8 Tryz.underlying48 hii hi0 hi1 hi2 rfl (by decide) _ _ _ rfl hrow2 ⟨g, 0, none⟩ l1.length cp (intCells l1) rfl (by simp [intCells_length]) (HROW1.cells (g := g) rfl) (one1E _) hm2 hm3 hb2s ?_)
              intro v' w3 hown' hgrow _
              have hb3 := grown_below hb2 hgrow hrow2
              have HN2 : Hid (CutRel D t w (t.size + 1 - (h + 1)) v' (.int .i64 h) (.int .i64 ((h : Int) + 1)) w3) := CutRel.next HC.out HRUN.out (.inl ⟨HS.out, HBEST.out⟩) rfl (by go_num) (by rw [intCells_append, List.length_append]; exact hown') hb3
              clear hown' hgrow hb3 hrow2 HROW1
              go_wp2_with fail
              go_roundg (t.size + 1 - (h + 1))
              case measure => omega
              case rel => exact HN2.out
          · by_cases hs2 : sortC (bt t lo) = 99
            · have hsv : ((sortC (bt t lo) : Nat) : Int) = 99 := by omega
              have HS : Hid (sortC (bt t lo) = 99) := hs2
              clear hs hs2
              go_wp2_with fail
              refine (sort_any (bt t lo) _ hblt).mono ?_
              rintro e wc ⟨rfl, rfl⟩
              rw [hsv]
              go_wp2_with fail
              go_loopg [6, 11] (h - lo) (fun g o x wx => AheadLoop D t w lo h l g o x wx)
              case atStart => exact ⟨lo, [], rfl, Nat.le_refl _, Nat.le_of_lt hlh, rfl, fun r hr => hr, by simp, by simpa using HROW.out, HBEL.out⟩
              case round =>
                obtain ⟨i, l1, rfl, hli, hih, rfl, hpre, hl1, hrow1, hbel1⟩ := hrel
                obtain ⟨n1, hn1⟩ : ∃ n1, n1 = (l ++ l1).length := ⟨_, rfl⟩
                obtain ⟨ao1, co1, hv1, _⟩ := row_form hrow1
                have HPRE : Hid (∀ r, AheadRun D t h i r → AheadRun D t h lo (l1 ++ r)) := hpre
                have HBK1 : Hid (BookAt wr B D Wv Cv) := Same.book (Kept.of_below hbel1 (fun _ => False)) HB.out
                have hn9 : n1 ≤ 1100 := by rw [hn1]; simp; omega
                subst hv1
                rw [← hn1] at hrow1 ⊢
                have HROW1 : Hid (wr.ownsRow w.heap.size 3 1 (.slice ao1 n1 co1) n1 (intCells (l ++ l1))) := hrow1
                have HBEL1 : Hid (Below w.heap.size w wr) := hbel1
                have HN1 : Hid (n1 = (l ++ l1).length) := hn1
                have hszr : w.heap.size ≤ wr.heap.size + 1 := by have := hbel1.size; omega
                have hm4 : n1 + 1 ≤ maxLen := by unfold maxLen; omega
                have hm5 : (n1 + 1) * 8 ≤ 140737488355328 := by omega
                clear hpre hrow1 hbel1 hn1
                by_cases hlt : i < h
                · have hlt' : (i : Int) < (h : Int) := by omega
                  go_wp2_with fail
                  refine (ahead_any wr B D Wv Cv HBK1.out HDS.out t ht i h hhs hlt).mono ?_
                  rintro e wr ⟨⟨p, rfl, hok⟩, rfl⟩
                  have hp := hok.lt HD.out hlt HRUN.out.2.2.2.1
                  have HOK : Hid (AheadOk D t i h p) := hok
                  clear hok
                  go_wp2_with (at_builtin; refine wpList_append_own _ rfl _ _ 48 rfl w.heap.size 3 ii _ 1 8 Tryz.underlying48 hii hi0 hi1 hi2 rfl (by decide) _ _ _ rfl (HROW1.out.alloc _) ⟨wr.heap.size, 0, none⟩ 1 1 [.int .i64 p] rfl rfl (news1E _ _ _ _ rfl) (one1E [p]) hm4 hm5 (by simpa using hszr) ?_)
                  intro v' w3 hown' hgrow _
                  have hb3 := grown_below (HBEL1.out.alloc HBEL1.out.size _) hgrow (HROW1.out.alloc _)
                  have HN2 : Hid (AheadLoop D t w lo h l (h - p) v' (.int .i64 p) w3) := AheadLoop.next hli hlt hp HPRE.out HOK.out hl1 rfl (by rw [← HN1.out]; exact hown') hb3
                  clear hown' hgrow hb3
                  go_wp2_with fail
                  go_roundg (h - p)
                  case measure => omega
                  case rel => exact HN2.out
                · obtain rfl : i = h := by omega
                  have HN2 : Hid (CutRel D t w (t.size + 1 - (i + 1)) (.slice ao1 n1 co1) (.int .i64 i) (.int .i64 ((i : Int) + 1)) wr) := AheadLoop.fin HC.out HRUN.out HS.out HPRE.out rfl (by go_num) (by rw [← HN1.out]; exact HROW1.out) HBEL1.out
                  go_wp2_with fail
                  go_roundg (t.size + 1 - (i + 1))
                  case measure => omega
                  case rel => exact HN2.out
            · have hs1' : ((sortC (bt t lo) : Int) == 115) = false := by rw [beq_eq_false_iff_ne]; omega
              have hs2' : ((sortC (bt t lo) : Int) == 99) = false := by rw [beq_eq_false_iff_ne]; omega
              obtain ⟨s, hsd⟩ : ∃ s, s = sortC (bt t lo) := ⟨_, rfl⟩
              rw [← hsd] at hs1' hs2'
              have HSD : Hid (s = sortC (bt t lo)) := hsd
              have HRC : Hid (RunCut D t lo h [h]) := .inr (.inr ⟨hs, hs2, rfl⟩)
              clear hs hs2 hsd
              go_wp2_with fail
              refine (sort_any (bt t lo) _ hblt).mono ?_
              rintro e wc ⟨rfl, rfl⟩
              rw [← HSD.out]
              go_wp2_with (at_builtin; refine wpList_append_own _ rfl _ _ 48 rfl w.heap.size 3 ii _ 1 8 Tryz.underlying48 hii hi0 hi1 hi2 rfl (by decide) _ _ _ rfl (HROW.out.alloc _) ⟨wc.heap.size, 0, none⟩ 1 1 [.int .i64 h] rfl rfl (news1E _ _ _ _ rfl) (one1E [h]) hm0 hm1 (by simpa using hsz1) ?_)
              intro v' w3 hown' hgrow _
              have hb3 := grown_below (HBEL.out.alloc HBEL.out.size _) hgrow (HROW.out.alloc _)
              have HN2 : Hid (CutRel D t w (t.size + 1 - (h + 1)) v' (.int .i64 h) (.int .i64 ((h : Int) + 1)) w3) := CutRel.next HC.out HRUN.out HRC.out rfl (by go_num) (by rw [intCells_append, List.length_append]; exact hown') hb3
              clear hown' hgrow hb3
              go_wp2_with fail
              go_roundg (t.size + 1 - (h + 1))
              case measure => omega
              case rel => exact HN2.out
      · have hlt : h < t.size := by
          rcases Nat.lt_or_ge h t.size with e | e
          · exact e
          · exact absurd (.inl (by omega)) hE
        have hlt' : (h : Int) < (t.size : Int) := by omega
        have hd : decide (Parts t h) = false := decide_eq_false fun e => hE (.inr e)
        have h0 : 0 < h := by omega
        have HN2 : Hid (CutRel D t w (t.size + 1 - (h + 1)) (.slice ao l.length co) (.int .i64 lo) (.int .i64 ((h : Int) + 1)) wr) := ⟨lo, h + 1, l, rfl, by omega, by omega, rfl, by go_num, HC.out, HLO.out, (fun j a b => by
          by_cases e : j = h
          · subst e; exact hE
          · exact HNO.out j a (by omega)), HROW.out, HBEL.out⟩
        clear hE
        go_wp2_with fail
        refine (parts_any t h _ ht hlt h0).mono ?_
        rintro e wr ⟨rfl, rfl⟩
        rw [hd]
        go_wp2_with fail
        go_roundg (t.size + 1 - (h + 1))
        case measure => omega
        case rel => exact HN2.out
    · have hhs' : ¬ (h : Int) ≤ (t.size : Int) := by omega
      have HEND : Hid (CutEnd D t w wr (.returned (.tuple #[.slice ao l.length co, .int .i64 0]))) := by
        refine ⟨⟨_, l, rfl, ?_, HROW.out⟩, HBEL.out⟩
        by_cases e : lo = t.size
        · rw [← e]; exact HC.out
        · exact absurd (.inl rfl) (HNO.out t.size (by omega) (by omega))
      go_wp2_with fail
      go_ret2
      exact HEND.out

end Go.Proofs.YtlfpepehngkehaaGreat
