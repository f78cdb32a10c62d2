/-
  Walks: the cost of a word in a table.
-/
import Derived.Test.YtlfpepehngkehaaDoorKeepB
namespace Go.Proofs.YtlfpepehngkehaaDoor
set_option linter.unusedSimpArgs false
set_option linter.unusedVariables false
open Go.RowKit

set_option maxHeartbeats 1000000 in
theorem cost_any (w : World) (B : Nat) (T : Tab) (Wv Cv : Value) (hB : TabAt w B T Wv Cv) (hT : T.length ≤ 1000) (x : ByteArray) :
    Calls Tryd.prog 24 #[.pointer (some ⟨B, 0, none⟩), .string x] w fun e w' => e = .returned (.int .i64 (tcost T x)) ∧ w' = w := by
  obtain ⟨pw, capw, rfl, hgw⟩ := row_form hB.ow
  obtain ⟨pc, capc, rfl, hgc⟩ := row_form hB.oc
  have hb0 := hB.c0
  have hb1 := hB.c1
  have HB : Hid (TabAt w B T (.slice pw T.length capw) (.slice pc T.length capc)) := hB
  obtain ⟨r, hr⟩ : ∃ r, r = tcost T x := ⟨_, rfl⟩
  rw [← hr]
  have HR : Hid (r = tcost T x) := hr
  clear hB hr
  go_enter Tryd.func24, Tryd.ntmps24
  go_wp2_with fail
  go_loopw [5] (fun y wr => CostRel T x w y wr) (fun y _ => T.length - (intOf y).toNat)
  case atStart => exact ⟨0, Nat.zero_le _, rfl, fun j _ h => by omega, rfl⟩
  case round =>
    obtain ⟨i, hi, rfl, hno, rfl⟩ := hrel
    have HNO : Hid (∀ j (h : j < T.length), j < i → T[j].1 ≠ x) := hno
    clear hno
    by_cases hlt : i < T.length
    · have hlt' : (i : Int) < (T.length : Int) := by omega
      obtain ⟨gw, rfl⟩ := hgw (by omega)
      obtain ⟨gc, rfl⟩ := hgc (by omega)
      have hw0 := own_str HB.out.ow (by simp) (k := i) (by simpa using hlt)
      have hc0 := own_i HB.out.oc (by simp) (k := i) (by simpa using hlt)
      simp only [List.getElem_map] at hw0 hc0
      obtain ⟨p, hp⟩ : ∃ p, p = T[i] := ⟨_, rfl⟩
      rw [← hp] at hw0 hc0
      have HP : Hid (p = T[i]) := hp
      clear hp
      by_cases he : p.1 = x
      · have ht : (p.1.toList == x.toList) = true := by rw [he]; simp
        have hr : p.2 = r := by rw [HR.out, tcost_found hlt (by rw [← HP.out]; exact he) HNO.out, HP.out]
        rw [hr] at hc0
        clear he hr
        go_wp2
        go_ret
        exact ⟨rfl, rfl⟩
      · have ht : (p.1.toList == x.toList) = false := beq_eq_false_iff_ne.2 fun e => he (ba_ext e)
        have HN2 : Hid (∀ j (h : j < T.length), j < i + 1 → T[j].1 ≠ x) := fun j h1 h2 => by
          by_cases e : j = i
          · subst e; rw [← HP.out]; exact he
          · exact HNO.out j h1 (by omega)
        clear he
        go_wp2
        go_roundw
        case rel => exact ⟨i + 1, by omega, by go_num, HN2.out, rfl⟩
        case measure => simp [intOf]; omega
    · have hr : r = -1 := by rw [HR.out]; exact tcost_none fun j hj => HNO.out j hj (by omega)
      subst hr
      clear HR
      go_wp2
      go_ret
      exact ⟨rfl, rfl⟩

end Go.Proofs.YtlfpepehngkehaaDoor
