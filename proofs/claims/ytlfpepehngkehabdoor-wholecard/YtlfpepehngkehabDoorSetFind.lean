/-
  Walks: where a word stands in a set.
-/
import Derived.Test.YtlfpepehngkehabDoorRows
import Derived.Test.YtlfpepehngkehabDoorSetW
import Derived.Test.YtlfpepehngkehabDoorMaths
import Derived.WalkKit
import Derived.WalkSpells
import Derived.WalkLawsBesides
namespace Go.Proofs.YtlfpepehngkehabDoor
set_option linter.unusedSimpArgs false
set_option linter.unusedVariables false
open Go.RowKit

def FindEnd (D : Dic) (x : ByteArray) (e : Ending) : Prop := ∃ (k : Nat) (f : Bool), e = .returned (.tuple #[.int .i64 k, .bool f]) ∧ SplitAt D x k ∧ (f = true ↔ ∃ h : k < D.length, D[k].1 = x)

set_option maxHeartbeats 1000000 in
theorem find_any (w : World) (b : Nat) (v : Value) (D : Dic) (x : ByteArray) (hS : SetAt w 94 b v D) (hsrt : Srt D) (hlen : D.length ≤ 1000000) :
    Calls Tryd.prog 55 #[.pointer (some ⟨b, 0, none⟩), .string x] w fun e w' => FindEnd D x e ∧ w' = w := by
  have hsh := hS.shape
  obtain ⟨hcell, hfrz, hown, -⟩ := hS
  rcases hsh with ⟨rfl, rfl⟩ | ⟨g, cap, rfl, hbg, hcap, hmax, hgs⟩
  · go_enter Tryd.func55, Tryd.ntmps55
    go_wp2_with fail
    refine wp_loop_rounds 1 ?_
    rw [rounds_succ]
    go_wp2
    go_ret2
    exact ⟨⟨0, false, rfl, ⟨by simp, fun j h => by simp at h, fun j h => by simp at h⟩, by simp⟩, rfl⟩
  · have HS : Hid (Srt D) := hsrt
    clear hsrt
    go_enter Tryd.func55, Tryd.ntmps55
    go_wp2_with fail
    go_loop [6, 7] (fun lo hi => ∃ l h : Nat, l ≤ h ∧ h ≤ D.length ∧ lo = .int .i64 l ∧ hi = .int .i64 h ∧ (∀ j (hj : j < D.length), j < l → wl D[j].1 x = true) ∧ (∀ j (hj : j < D.length), h ≤ j → wl D[j].1 x = false)) (fun lo hi => (intOf hi).toNat - (intOf lo).toNat)
    case atStart => exact ⟨0, D.length, by omega, by omega, rfl, rfl, fun j hj h => by omega, fun j hj h => by omega⟩
    case round =>
      obtain ⟨l, h, hlh, hh, rfl, rfl, h1, h2⟩ := hrel
      have H1 : Hid (∀ j (hj : j < D.length), j < l → wl D[j].1 x = true) := h1
      have H2 : Hid (∀ j (hj : j < D.length), h ≤ j → wl D[j].1 x = false) := h2
      clear h1 h2
      by_cases hlt : l < h
      · have hm1 : l ≤ (l + h) / 2 := by omega
        have hm2 : (l + h) / 2 < h := by omega
        have hmd : (l + h) / 2 < D.length := by omega
        obtain ⟨hc0, _⟩ := own_pair hown (k := (l + h) / 2) rfl hmd
        obtain ⟨y, hy⟩ : ∃ y, y = D[(l + h) / 2].1 := ⟨_, rfl⟩
        rw [← hy] at hc0
        have HY : Hid (y = D[(l + h) / 2].1) := hy
        clear hy
        by_cases hb : Op.bytesLess y.toList x.toList = true
        · go_wp2
          go_round
          case rel => exact ⟨(l + h) / 2 + 1, h, by omega, hh, by go_num, rfl, find_up HS.out (by omega) (by have := HY.out; rw [← this]; exact hb), H2.out⟩
          case measure => simp [intOf]; omega
        · have hb' : Op.bytesLess y.toList x.toList = false := by simpa using hb
          clear hb
          go_wp2
          go_round
          case rel => exact ⟨l, (l + h) / 2, by omega, by omega, rfl, by go_num, H1.out, find_down HS.out (by omega) (by have := HY.out; rw [← this]; exact hb')⟩
          case measure => simp [intOf]; omega
      · have hle : l = h := by omega
        subst hle
        have HSP : Hid (SplitAt D x l) := ⟨hh, H1.out, H2.out⟩
        clear H1 H2
        by_cases hl : l < D.length
        · obtain ⟨hc0, _⟩ := own_pair hown (k := l) rfl hl
          obtain ⟨y, hy⟩ : ∃ y, y = D[l].1 := ⟨_, rfl⟩
          rw [← hy] at hc0
          have HY : Hid (y = D[l].1) := hy
          clear hy
          by_cases hb : y = x
          · have hb' : (y.toList == x.toList) = true := by rw [hb]; simp
            have HB : Hid (y = x) := hb
            clear hb
            go_wp2
            go_ret2
            exact ⟨⟨l, true, rfl, HSP.out, ⟨fun _ => ⟨hl, by rw [← HY.out]; exact HB.out⟩, fun _ => rfl⟩⟩, rfl⟩
          · have hb' : (y.toList == x.toList) = false := beq_eq_false_iff_ne.2 fun e => hb (ba_ext e)
            have HB : Hid (¬ y = x) := hb
            clear hb
            go_wp2
            go_ret2
            exact ⟨⟨l, false, rfl, HSP.out, ⟨(fun h => by cases h), fun ⟨_, h⟩ => absurd (HY.out.trans h) HB.out⟩⟩, rfl⟩
        · go_wp2
          go_ret2
          exact ⟨⟨l, false, rfl, HSP.out, ⟨(fun h => by cases h), fun ⟨h, _⟩ => absurd h hl⟩⟩, rfl⟩

end Go.Proofs.YtlfpepehngkehabDoor
