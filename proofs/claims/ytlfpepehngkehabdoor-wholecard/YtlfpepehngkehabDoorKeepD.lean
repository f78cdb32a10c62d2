/-
  Walks: the keep statements' lists.
-/
import Derived.Test.YtlfpepehngkehabDoorKeepC
import Derived.Deep.RegionWith
namespace Go.Proofs.YtlfpepehngkehabDoor
set_option linter.unusedSimpArgs false
set_option linter.unusedVariables false
open Go.RowKit

def joinTo (L : List ByteArray) : Nat → ByteArray
  | 0 => ByteArray.empty
  | i + 1 => (if i = 0 then joinTo L i else joinTo L i ++ comm) ++ L.getD i ByteArray.empty

theorem joinTo_size {L : List ByteArray} (h : ∀ x ∈ L, x.size ≤ 9) : ∀ i, i ≤ L.length → (joinTo L i).size ≤ 10 * i
  | 0, _ => by simp [joinTo]
  | i + 1, hi => by
    have h1 := joinTo_size h i (by omega)
    have h2 : (L.getD i ByteArray.empty).size ≤ 9 := by
      rw [List.getD_eq_getElem?_getD, List.getElem?_eq_getElem (show i < L.length by omega), Option.getD_some]
      exact h _ (List.getElem_mem _)
    have h3 : comm.size = 1 := rfl
    simp only [joinTo]
    split
    · rw [ByteArray.size_append]; omega
    · rw [ByteArray.size_append, ByteArray.size_append]; omega

def JoinRel (L : List ByteArray) (w : World) (g : Nat) (s y : Value) (wr : World) : Prop := ∃ i : Nat, g = L.length - i ∧ i ≤ L.length ∧ y = .int .i64 i ∧ s = .string (joinTo L i) ∧ wr = w

set_option maxHeartbeats 1000000 in
theorem joined_any (w : World) (base : Nat) (v : Value) (L : List ByteArray) (h : w.ownsRow base 9 1 v L.length (strCells L)) (hL : L.length ≤ 100) (hx : ∀ x ∈ L, x.size ≤ 9) :
    Calls Tryd.prog 28 #[v] w fun e w' => e = .returned (.string (joinTo L L.length)) ∧ w' = w := by
  obtain ⟨ap, cp, rfl, hg⟩ := row_form h
  have HR : Hid (w.ownsRow base 9 1 (.slice ap L.length cp) L.length (strCells L)) := h
  have HX : Hid (∀ x ∈ L, x.size ≤ 9) := hx
  clear h hx
  go_enter Tryd.func28, Tryd.ntmps28
  go_wp2_with fail
  go_loopg [3, 4] L.length (fun g s y wr => JoinRel L w g s y wr)
  case atStart => exact ⟨0, rfl, Nat.zero_le _, rfl, rfl, rfl⟩
  case round =>
    obtain ⟨i, rfl, hi, rfl, rfl, rfl⟩ := hrel
    by_cases hlt : i < L.length
    · have hlt' : (i : Int) < (L.length : Int) := by omega
      obtain ⟨g, rfl⟩ := hg (by omega)
      have hc := own_str HR.out rfl hlt
      obtain ⟨x, hxd⟩ : ∃ x, x = L[i] := ⟨_, rfl⟩
      rw [← hxd] at hc
      have hxs : x.size ≤ 9 := by rw [hxd]; exact HX.out _ (List.getElem_mem hlt)
      obtain ⟨S, hS⟩ : ∃ S, S = joinTo L i := ⟨_, rfl⟩
      rw [← hS]
      have hSs : S.size ≤ 10 * i := by rw [hS]; exact joinTo_size HX.out i hi
      have HN : Hid (joinTo L (i + 1) = (if i = 0 then S else S ++ comm) ++ x) := by
        show _ = _
        simp only [joinTo]
        rw [← hS, List.getD_eq_getElem?_getD, List.getElem?_eq_getElem hlt, Option.getD_some, ← hxd]
      clear hS hxd
      by_cases h0 : i = 0
      · subst h0
        have l1 : ¬ 9223372036854775807 < S.size + x.size := by omega
        have HN2 : Hid (JoinRel L wr (L.length - (0 + 1)) (.string (S ++ x)) (.int .i64 1) wr) := ⟨1, rfl, hlt, rfl, by rw [HN.out]; rfl, rfl⟩
        go_wp2_with fail
        go_roundg (L.length - (0 + 1))
        case measure => omega
        case rel => exact HN2.out
      · have h0' : (0 : Int) < (i : Int) := by omega
        have l0 : ¬ 9223372036854775807 < S.size + 1 := by omega
        have l1 : ¬ 9223372036854775807 < S.size + 1 + x.size := by omega
        have HN2 : Hid (JoinRel L wr (L.length - (i + 1)) (.string (S ++ comm ++ x)) (.int .i64 ((i : Int) + 1)) wr) := ⟨i + 1, rfl, hlt, by go_num, by rw [HN.out, if_neg h0], rfl⟩
        go_wp2_with fail
        go_roundg (L.length - (i + 1))
        case measure => omega
        case rel => exact HN2.out
    · obtain rfl : i = L.length := by omega
      go_wp2_with fail
      go_ret
      exact ⟨rfl, rfl⟩

end Go.Proofs.YtlfpepehngkehabDoor
