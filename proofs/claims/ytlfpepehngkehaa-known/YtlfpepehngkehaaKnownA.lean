/-
  Known: the examples of Check; the document's dictionary; which of n things.
-/
import Derived.Test.YtlfpepehngkehaaKnownM
import Derived.Test.YtlfpepehngkehaaMaths
import Derived.Test.YtlfpepehngkehaaLawCheck
import Derived.Test.YtlfpepehngkehaaBuildA
import Derived.Test.YtlfpepehngkehaaRowsW
namespace Go.Proofs.Ytlfpepehngkehaa
set_option linter.unusedSimpArgs false
set_option linter.unusedVariables false
open Go.RowKit

def goldL : List (ByteArray × Nat × Nat) := [(⟨#[97, 98, 61, 50, 48, 44, 97, 98, 99, 61, 48, 48, 55, 44, 97, 98, 33]⟩, 0, 0), (⟨#[97, 98]⟩, 2, 2), (⟨#[97, 98, 61, 44]⟩, 2, 3), (⟨#[97, 66, 61, 49]⟩, 2, 1), (⟨#[126, 97, 61, 49]⟩, 2, 0), (⟨#[97, 61, 49, 44]⟩, 2, 4), (⟨#[97, 61, 49, 50, 51, 52, 53]⟩, 2, 6), (⟨#[97, 98, 99, 100, 101, 102, 103, 104, 105, 106, 107, 108, 109, 61, 49]⟩, 2, 12), (⟨#[97, 61, 57, 57, 57, 57, 44, 98, 61, 49, 48, 48, 49]⟩, 3, 2), (⟨#[]⟩, 0, 0), (⟨#[44]⟩, 2, 0), (⟨#[65, 126, 61, 49, 48, 48, 48, 44, 97, 33]⟩, 0, 0)]
theorem goldL_all : goldL.all (fun g => refB g.1 g.2.1 g.2.2) = true := by kernel_rfl
theorem gold_res {g : ByteArray × Nat × Nat} (h : g ∈ goldL) : RefRes g.1 g.2.1 g.2.2 := refB_res (List.all_eq_true.1 goldL_all g h)
theorem goldL_small : goldL.all (fun g => decide (g.1.size ≤ 2000)) = true := by kernel_rfl

def goldCells : Array Value := #[.string ⟨#[97, 98, 61, 50, 48, 44, 97, 98, 99, 61, 48, 48, 55, 44, 97, 98, 33]⟩, .int .i64 0, .int .i64 0, .string ⟨#[97, 98]⟩, .int .i64 2, .int .i64 2, .string ⟨#[97, 98, 61, 44]⟩, .int .i64 2, .int .i64 3, .string ⟨#[97, 66, 61, 49]⟩, .int .i64 2, .int .i64 1, .string ⟨#[126, 97, 61, 49]⟩, .int .i64 2, .int .i64 0, .string ⟨#[97, 61, 49, 44]⟩, .int .i64 2, .int .i64 4, .string ⟨#[97, 61, 49, 50, 51, 52, 53]⟩, .int .i64 2, .int .i64 6, .string ⟨#[97, 98, 99, 100, 101, 102, 103, 104, 105, 106, 107, 108, 109, 61, 49]⟩, .int .i64 2, .int .i64 12, .string ⟨#[97, 61, 57, 57, 57, 57, 44, 98, 61, 49, 48, 48, 49]⟩, .int .i64 3, .int .i64 2, .string ⟨#[]⟩, .int .i64 0, .int .i64 0, .string ⟨#[44]⟩, .int .i64 2, .int .i64 0, .string ⟨#[65, 126, 61, 49, 48, 48, 48, 44, 97, 33]⟩, .int .i64 0, .int .i64 0]

theorem goldCells_at (k : Nat) (h : k < goldL.length) : goldCells[k * 3]? = some (.string goldL[k].1) ∧ goldCells[k * 3 + 1]? = some (.int .i64 goldL[k].2.1) ∧ goldCells[k * 3 + 2]? = some (.int .i64 goldL[k].2.2) := by
  match k, h with
  | 0, _ => exact ⟨rfl, rfl, rfl⟩
  | 1, _ => exact ⟨rfl, rfl, rfl⟩
  | 2, _ => exact ⟨rfl, rfl, rfl⟩
  | 3, _ => exact ⟨rfl, rfl, rfl⟩
  | 4, _ => exact ⟨rfl, rfl, rfl⟩
  | 5, _ => exact ⟨rfl, rfl, rfl⟩
  | 6, _ => exact ⟨rfl, rfl, rfl⟩
  | 7, _ => exact ⟨rfl, rfl, rfl⟩
  | 8, _ => exact ⟨rfl, rfl, rfl⟩
  | 9, _ => exact ⟨rfl, rfl, rfl⟩
  | 10, _ => exact ⟨rfl, rfl, rfl⟩
  | 11, _ => exact ⟨rfl, rfl, rfl⟩

set_option maxHeartbeats 1000000 in
set_option maxRecDepth 20000 in
theorem golds_any (w : World) : Calls Try.prog 19 #[] w fun e w' => e = .returned (.slice (some ⟨w.heap.size, 0, none⟩) 12 12) ∧ w' = w.alloc (.cells goldCells 59) := by
  go_enter Try.func19, Try.ntmps19
  go_wp2
  go_ret
  exact ⟨rfl, rfl⟩

theorem golds_at (w : World) (t : TypeId) (k : Nat) (h : k < goldL.length) : let W := w.alloc (.cells goldCells t)
    W.cell? ⟨w.heap.size, k * 3, none⟩ = some (.string goldL[k].1) ∧ W.cell? ⟨w.heap.size, k * 3 + 1, none⟩ = some (.int .i64 goldL[k].2.1) ∧ W.cell? ⟨w.heap.size, k * 3 + 2, none⟩ = some (.int .i64 goldL[k].2.2) := by
  obtain ⟨h1, h2, h3⟩ := goldCells_at k h
  refine ⟨?_, ?_, ?_⟩
  · rw [World.cell?_alloc_at _ _ _ _ rfl]; exact h1
  · rw [World.cell?_alloc_at _ _ _ _ rfl]; exact h2
  · rw [World.cell?_alloc_at _ _ _ _ rfl]; exact h3

/-! which of n things -/
theorem kPick_nat (c : Int) (n : Nat) (hn : 0 < n) : ∃ r : Nat, r < n ∧ Int.tmod (if c < 0 then -(c + 1) else c) n = (r : Int) := by
  have h0 : 0 ≤ (if c < 0 then -(c + 1) else c) := by split <;> omega
  refine ⟨((if c < 0 then -(c + 1) else c) % (n : Int)).toNat, ?_, ?_⟩
  · have := Int.emod_lt_of_pos (if c < 0 then -(c + 1) else c) (show (0 : Int) < n by omega)
    have := Int.emod_nonneg (if c < 0 then -(c + 1) else c) (show (n : Int) ≠ 0 by omega)
    omega
  · rw [Int.tmod_eq_emod_of_nonneg h0]
    have := Int.emod_nonneg (if c < 0 then -(c + 1) else c) (show (n : Int) ≠ 0 by omega)
    omega

set_option maxHeartbeats 1000000 in
theorem knownPick_any (w : World) (c : Int) (hc0 : -9223372036854775808 ≤ c) (hc1 : c ≤ 9223372036854775807) :
    Calls Try.prog 22 #[.int .i64 c, .int .i64 23] w fun e w' => (∃ r : Nat, r < 23 ∧ e = .returned (.int .i64 r)) ∧ w' = w := by
  obtain ⟨r, hr, he⟩ := kPick_nat c 23 (by omega)
  have hr9 : IntKind.i64.wrap (r : Int) = (r : Int) := by rw [IntKind.wrap_i64]; omega
  have he : Int.tmod (if c < 0 then -(c + 1) else c) 23 = (r : Int) := he
  by_cases h : c < 0
  · rw [if_pos h] at he
    obtain ⟨d, hd⟩ : ∃ d : Int, d = c + 1 := ⟨_, rfl⟩
    obtain ⟨x, hx⟩ : ∃ x : Int, x = -d := ⟨_, rfl⟩
    rw [← hd, ← hx] at he
    have hd9 : IntKind.i64.wrap d = d := by rw [IntKind.wrap_i64]; omega
    have hx9 : IntKind.i64.wrap x = x := by rw [IntKind.wrap_i64]; omega
    have hd' := hd.symm
    have hx' := hx.symm
    clear hd hx
    go_enter Try.func22, Try.ntmps22
    go_wp2
    go_ret
    exact ⟨⟨r, hr, rfl⟩, rfl⟩
  · rw [if_neg h] at he
    go_enter Try.func22, Try.ntmps22
    go_wp2
    go_ret
    exact ⟨⟨r, hr, rfl⟩, rfl⟩

/-! the document's D -/
theorem exD_rep {D : Dic} (h : BuildYes [exA, exB] D) : D = exD := by
  obtain ⟨_, E, h1, h2, _⟩ := h
  have e : E = exE := OkUpTo.one h1 (ok_two exA_ok exB_ok)
  rw [e] at h2
  rw [h2.unique (dicF_rep exE), exD_eq]

theorem exF_rep {D : Dic} (h : BuildYes [exC] D) : D = exF := by
  obtain ⟨_, E, h1, h2, _⟩ := h
  have e : E = entsF exC 0 exCL := OkUpTo.one h1 (ok_one exC_ok)
  rw [e] at h2
  rw [h2.unique (dicF_rep _), exF_eq]

theorem exD_builds (err : Int) : ¬ BuildNo [exA, exB] err := build_ok (E := exE) (by simp) (ok_two exA_ok exB_ok) (fun D hR => by rw [hR.unique (dicF_rep exE), exD_eq]; decide) err
theorem exF_builds (err : Int) : ¬ BuildNo [exC] err := build_ok (E := entsF exC 0 exCL) (by simp) (ok_one exC_ok) (fun D hR => by rw [hR.unique (dicF_rep _), exF_eq]; decide) err

def ExEnd (w w' : World) (e : Ending) : Prop := ∃ b v, e = .returned (.pointer (some ⟨b, 0, none⟩)) ∧ SetAt w' 149 b v exD ∧ GoodDic exD ∧ Below w.heap.size w w'

set_option maxHeartbeats 1000000 in
set_option maxRecDepth 20000 in
theorem example_any (w : World) : Calls Try.prog 21 #[] w fun e w' => ExEnd w w' e := by
  go_enter Try.func21, Try.ntmps21
  go_wp2_with fail
  have hS : StrsAt (w.alloc (.cells #[.string exA, .string exB] 9)) (some ⟨w.heap.size, 0, none⟩) [exA, exB] := by
    refine ⟨fun s hs => ?_, .inr ⟨_, _, rfl, fun i hi => ?_⟩⟩
    · simp at hs
      unfold maxLen
      rcases hs with rfl | rfl <;> decide
    · rw [World.cell?_alloc_at _ _ _ _ rfl]
      match i, hi with
      | 0, _ => rfl
      | 1, _ => rfl
  have hC := build_any (w.alloc (.cells #[.string exA, .string exB] 9)) (some ⟨w.heap.size, 0, none⟩) 2 [exA, exB] hS (by simp)
  refine hC.mono ?_
  rintro e w2 ⟨hbe, hb2⟩
  rcases hbe with ⟨err, rfl, hno⟩ | ⟨b, v, D, rfl, hyes, hSet, hbb, hvb⟩
  · exact absurd hno (exD_builds err)
  · have HB : Hid (Below w.heap.size w w2) := ((Below.refl _ w).alloc (Nat.le_refl _) _).trans (hb2.mono (by simp))
    have hg := hyes.good
    obtain rfl := exD_rep hyes
    have HE : Hid (ExEnd w w2 (.returned (.pointer (some ⟨b, 0, none⟩)))) := ⟨b, v, rfl, hSet, hg, HB.out⟩
    clear hyes hSet hvb hb2 hC hS hg
    go_wp2
    go_ret
    exact HE.out

end Go.Proofs.Ytlfpepehngkehaa
