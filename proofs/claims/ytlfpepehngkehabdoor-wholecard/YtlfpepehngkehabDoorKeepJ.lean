/-
  Walks: lists of boundaries that rise.
-/
import Derived.Test.YtlfpepehngkehabDoorRows
import Derived.Test.YtlfpepehngkehabDoorRowsW
import Derived.Test.YtlfpepehngkehabDoorMaths
import Derived.WalkKit
import Derived.WalkSpells
import Derived.WalkLawsBesides
import Derived.Deep.LoopGhost
import Derived.BigQuiet
import Derived.Deep.QuietTactic
namespace Go.Proofs.YtlfpepehngkehabDoor
set_option linter.unusedSimpArgs false
set_option linter.unusedVariables false
open Go.RowKit

/-! boundaries that rise -/
theorem Bounds.first {l : List Nat} {n : Nat} (h : Bounds l n) : ∃ r, l = 0 :: r := by
  cases l with
  | nil => have := h.zero; simp at this
  | cons a r =>
    rcases List.mem_cons.1 h.zero with e | e
    · exact ⟨r, by rw [← e]⟩
    · have := (List.pairwise_cons.1 h.srt).1 0 e
      omega

theorem Bounds.lastAt {l : List Nat} {n : Nat} (h : Bounds l n) (hl : l.length - 1 < l.length) : l[l.length - 1] = n := by
  obtain ⟨i, hi, e⟩ := List.mem_iff_getElem.1 h.last
  by_cases hc : i = l.length - 1
  · subst hc; exact e
  · have h1 := List.pairwise_iff_getElem.1 h.srt i (l.length - 1) hi hl (by omega)
    have h2 := h.le _ (List.getElem_mem hl)
    omega

def RisesRel (l : List Nat) (w : World) (g : Nat) (y : Value) (wr : World) : Prop := ∃ i : Nat, g = l.length - i ∧ 1 ≤ i ∧ i ≤ l.length ∧ y = .int .i64 i ∧ Same w wr

set_option maxHeartbeats 2000000 in
theorem rises_any (w : World) (base n : Nat) (v : Value) (l : List Nat) (h : w.ownsRow base 3 1 v l.length (intCells l)) (hb : Bounds l n) (hl : l.length ≤ 1000) (hn : n ≤ 1000) :
    Calls Tryd.prog 8 #[v, .int .i64 n] w fun e w' => e = .returned (.bool true) ∧ Same w w' := by
  obtain ⟨ap, cp, rfl, hg⟩ := row_form h
  have hpos : 0 < l.length := List.length_pos_of_mem hb.zero
  obtain ⟨g, rfl⟩ := hg (by omega)
  have HR : Hid (w.ownsRow base 3 1 (.slice (some ⟨g, 0, none⟩) l.length cp) l.length (intCells l)) := h
  have HB : Hid (Bounds l n) := hb
  have hlm : l.length - 1 < l.length := by omega
  have hc0 := own_int h rfl hpos
  have hcl := own_int h rfl hlm
  have e0 : l[0] = 0 := by obtain ⟨r, e⟩ := hb.first; subst e; rfl
  have el : l[l.length - 1] = n := hb.lastAt hlm
  rw [e0] at hc0
  rw [el] at hcl
  obtain ⟨m, hm⟩ : ∃ m, m = l.length - 1 := ⟨_, rfl⟩
  rw [← hm] at hcl
  have hm1 : (l.length : Int) - 1 = (m : Int) := by omega
  have hwm : IntKind.i64.wrap (m : Int) = (m : Int) := by rw [IntKind.wrap_i64]; omega
  have hml : (m : Int) < (l.length : Int) := by omega
  have hlz : ((l.length : Int) == 0) = false := by rw [beq_eq_false_iff_ne]; omega
  have hl0 : (0 : Int) < (l.length : Int) := by omega
  clear h hb e0 el hm hg
  go_enter Tryd.func8, Tryd.ntmps8
  go_wp2_with fail
  go_loopg [5] (l.length - 1) (fun g y wr => RisesRel l w g y wr)
  case atStart => exact ⟨1, rfl, Nat.le_refl _, hpos, rfl, Same.refl _⟩
  case round =>
    obtain ⟨i, rfl, hi1, hi2, rfl, hs⟩ := hrel
    by_cases hlt : i < l.length
    · have hlt' : (i : Int) < (l.length : Int) := by omega
      obtain ⟨k, hk⟩ : ∃ k, k = i - 1 := ⟨_, rfl⟩
      have hk1 : (i : Int) - 1 = (k : Int) := by omega
      have hwk : IntKind.i64.wrap (k : Int) = (k : Int) := by rw [IntKind.wrap_i64]; omega
      have hkl : (k : Int) < (l.length : Int) := by omega
      have hkl2 : k < l.length := by omega
      have hx := own_int (hs.row HR.out) rfl hlt
      have hy := own_int (hs.row HR.out) rfl hkl2
      have hxy : l[k] < l[i] := List.pairwise_iff_getElem.1 HB.out.srt k i hkl2 hlt (by omega)
      obtain ⟨x, hxd⟩ : ∃ x, x = l[i] := ⟨_, rfl⟩
      obtain ⟨y, hyd⟩ : ∃ y, y = l[k] := ⟨_, rfl⟩
      rw [← hxd] at hx hxy
      rw [← hyd] at hy hxy
      have hno : ¬ (x : Int) ≤ (y : Int) := by omega
      clear hxd hyd hk hc0 hcl
      go_wp2_with fail
      go_quiet (fail)
      go_wp2_with fail
      go_roundg (l.length - (i + 1))
      case measure => omega
      case rel => exact ⟨i + 1, rfl, by omega, hlt, by go_num, Kept.drewN hs _⟩
    · go_wp2_with fail
      go_ret
      exact ⟨rfl, hs⟩

end Go.Proofs.YtlfpepehngkehabDoor
