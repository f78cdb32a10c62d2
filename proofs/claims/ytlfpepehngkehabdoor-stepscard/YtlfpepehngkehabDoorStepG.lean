/-
  Walks: goes.
-/
import Derived.Test.YtlfpepehngkehabDoorStepW
import Derived.Deep.CutBlock
namespace Go.Proofs.YtlfpepehngkehabDoor
set_option linter.unusedSimpArgs false
set_option linter.unusedVariables false
open Go.RowKit

def FolRel (L : List Nat) (k : Int) (w : World) (g : Nat) (iv : Value) (wr : World) : Prop := ∃ m : Nat, g = m ∧ (m + 1 = L.length ∨ ∃ h : m < L.length, k < (L[m] : Int)) ∧ m < L.length ∧ iv = .int .i64 m ∧ wr = w
def PreRel (L : List Nat) (k : Int) (w : World) (g : Nat) (iv : Value) (wr : World) : Prop := ∃ m : Nat, g = L.length - m ∧ (m = 0 ∨ ∃ h : m < L.length, (L[m] : Int) < k) ∧ m < L.length ∧ iv = .int .i64 m ∧ wr = w

set_option maxHeartbeats 4000000 in
set_option maxRecDepth 20000 in
theorem goes_any (WI : WalkIf) (w : World) (p : Nat) (F : Nat → Prop) (D : Dic) (t : ByteArray) (L : List Nat) (a base g c : Nat) (k : Int) (hk0 : -9223372036854775808 ≤ k) (hk1 : k ≤ 9223372036854775807) (h : OnWalk WI w p F D t L a base g c) :
    Calls Tryd.prog 17 #[.pointer (some ⟨p, 0, none⟩), .slice (some ⟨g, 0, none⟩) L.length c, .int .i64 k] w fun e w' => e = .returned (.bool true) ∧ (∃ a', OnWalk WI w' p F D t L a' base g c) ∧ Kept w w' (fun j => j = p) := by
  have HB : Hid (Bounds L t.size) := h.bounds
  have hpos : 0 < L.length := List.length_pos_of_mem HB.out.zero
  have hLl := h.cr.length h.gd h.ts
  obtain ⟨i, hi⟩ := fol_exists HB.out k
  obtain ⟨i2, hi2⟩ := pre_exists HB.out k
  have HI : Hid (FolAt L k i) := hi
  have HI2 : Hid (PreAt L k i2) := hi2
  obtain ⟨r1, hm1⟩ := fol_at (D := D) HB.out hi a
  obtain ⟨a2, hm2⟩ := prev_at D HB.out hi.1
  obtain ⟨r3, hm3⟩ := pre_at (D := D) HB.out hi2 a2
  obtain ⟨a4, hm4⟩ := next_at D HB.out hi2.1
  obtain ⟨x1, hx1⟩ : ∃ x1, x1 = L[i]'hi.1 := ⟨_, rfl⟩
  obtain ⟨x2, hx2⟩ : ∃ x2, x2 = L[i2]'hi2.1 := ⟨_, rfl⟩
  rw [← hx1] at hm1 hm2
  rw [← hx2] at hm3 hm4
  have hC1 := h.call (WI.following w p F D t L a k hk0 hk1 h.at_ h.gd h.ts h.cr) hm1
  have HM2 : Hid (MoveIs D t L x1 4 0 (prevR L i) a2) := hm2
  have HM3 : Hid (MoveIs D t L a2 6 k r3 x2) := hm3
  have HM4 : Hid (MoveIs D t L x2 3 0 (nextR L i2) a4) := hm4
  clear h hm1 hm2 hm3 hm4 hx1 hx2 hi hi2
  go_enter Tryd.func17, Tryd.ntmps17
  go_wp2_with fail
  refine hC1.mono ?_
  rintro e w2 ⟨rfl, hW2, hk2⟩
  have HK2 : Hid (Kept w w2 (fun j => j = p)) := hk2
  have hC2 := hW2.call (WI.previous w2 p F D t L _ hW2.at_ hW2.gd hW2.ts hW2.cr) HM2.out
  clear hC1 hW2 hk2
  go_wp2_with fail
  refine hC2.mono ?_
  rintro e w3 ⟨rfl, hW3, hk3⟩
  have HK3 : Hid (Kept w w3 (fun j => j = p)) := HK2.out.trans hk3 (fun _ e => .inl e)
  have hC3 := hW3.call (WI.preceding w3 p F D t L _ k hk0 hk1 hW3.at_ hW3.gd hW3.ts hW3.cr) HM3.out
  clear hC2 hW3 hk3 HK2
  go_wp2_with fail
  refine hC3.mono ?_
  rintro e w4 ⟨rfl, hW4, hk4⟩
  have HK4 : Hid (Kept w w4 (fun j => j = p)) := HK3.out.trans hk4 (fun _ e => .inl e)
  have hC4 := hW4.call (WI.next w4 p F D t L _ hW4.at_ hW4.gd hW4.ts hW4.cr) HM4.out
  clear hC3 hW4 hk4 HK3
  go_wp2_with fail
  refine hC4.mono ?_
  rintro e w5 ⟨rfl, hW5, hk5⟩
  have HK5 : Hid (Kept w w5 (fun j => j = p)) := HK4.out.trans hk5 (fun _ e => .inl e)
  have HW5 : Hid (OnWalk WI w5 p F D t L a4 base g c) := hW5
  obtain ⟨e1, he1⟩ : ∃ e1, e1 = L.length - 1 := ⟨_, rfl⟩
  have he1' : (L.length : Int) - 1 = (e1 : Int) := by omega
  have HE1 : Hid (e1 + 1 = L.length) := by show _ = _; omega
  obtain ⟨pr, hpr⟩ : ∃ pr, pr = prevR L i := ⟨_, rfl⟩
  obtain ⟨nr, hnr⟩ : ∃ nr, nr = nextR L i2 := ⟨_, rfl⟩
  have HPR : Hid (pr = prevR L i) := hpr
  have HNR : Hid (nr = nextR L i2) := hnr
  rw [← hpr, ← hnr]
  clear hC4 hW5 hk5 HK4 he1 hpr hnr HM2 HM3 HM4
  go_upto_block 0 with fail
  go_cut [9] (fun iv wx => iv = .int .i64 i ∧ wx = w5)
  case first =>
    go_wp2_with fail
    go_loopg [9] e1 (fun g iv wr => FolRel L k w5 g iv wr)
    case atStart => exact ⟨e1, rfl, .inl HE1.out, by have := HE1.out; omega, rfl, rfl⟩
    case round =>
      obtain ⟨m, hgm, hm1, hm2, rfl, hwr⟩ := hrel
      obtain rfl : gk = m := hgm
      obtain rfl : wr = w5 := hwr
      have HM : Hid (gk + 1 = L.length ∨ ∃ h : gk < L.length, k < (L[gk] : Int)) := hm1
      clear hm1
      cases gk with
      | zero =>
        have HE : Hid (i = 0) := HI.out.one ⟨hm2, fun j _ hj => by omega, HM.out⟩
        go_wp2_with fail
        go_meet
        exact ⟨by rw [HE.out], rfl⟩
      | succ j =>
        have hx := own_int HW5.out.row rfl (show j < L.length by omega)
        have hjj : ((j + 1 : Nat) : Int) - 1 = (j : Int) := by omega
        have hjp : (0 : Int) < ((j + 1 : Nat) : Int) := by omega
        have hjl : (j : Int) < (L.length : Int) := by omega
        by_cases hk : k < (L[j]'(by omega) : Int)
        · have HN : Hid (j + 1 = L.length ∨ ∃ h : j < L.length, k < (L[j] : Int)) := .inr ⟨by omega, hk⟩
          obtain ⟨x, hxd⟩ : ∃ x, x = L[j]'(by omega) := ⟨_, rfl⟩
          rw [← hxd] at hx hk
          clear hxd
          obtain ⟨m, hmd⟩ : ∃ m, m = j + 1 := ⟨_, rfl⟩
          rw [← hmd] at hjj hjp ⊢
          have hjm : j < m := by omega
          have hj2 : j < L.length := by omega
          clear hmd
          go_wp2_with fail
          go_roundg j
          case measure => omega
          case rel => exact ⟨j, rfl, HN.out, hj2, rfl, rfl⟩
        · have HE : Hid (i = j + 1) := HI.out.one ⟨hm2, fol_le HB.out hm2 (.inr ⟨by omega, by simp; omega⟩), HM.out⟩
          obtain ⟨x, hxd⟩ : ∃ x, x = L[j]'(by omega) := ⟨_, rfl⟩
          rw [← hxd] at hx hk
          clear hxd
          obtain ⟨m, hmd⟩ : ∃ m, m = j + 1 := ⟨_, rfl⟩
          rw [← hmd] at hjj hjp HE ⊢
          clear hmd
          go_wp2_with fail
          go_meet
          exact ⟨by rw [HE.out], rfl⟩
  case rest =>
    obtain ⟨rfl, rfl⟩ := hcut
    have hil := HI.out.1
    have hil' : (i : Int) < (L.length : Int) := by omega
    go_upto_if 38 with fail
    go_cut [10] (fun y wx => y = .int .i64 pr ∧ wx = wc)
    case first =>
      by_cases hi0 : i = 0
      · have HP : Hid (pr = -1) := by show _ = _; rw [HPR.out]; unfold prevR; rw [dif_neg (by omega)]
        have hn : ¬ (0 : Int) < (i : Int) := by omega
        clear hi0
        go_wp2_with fail
        go_meet
        exact ⟨by rw [HP.out], rfl⟩
      · obtain ⟨j, hj⟩ : ∃ j, i = j + 1 := ⟨i - 1, by omega⟩
        have hx := own_int HW5.out.row rfl (show j < L.length by omega)
        have HP : Hid (pr = (L[j]'(by omega) : Nat)) := by show _ = _; rw [HPR.out]; subst hj; unfold prevR; rw [dif_pos ⟨by omega, hil⟩]; simp
        obtain ⟨x, hxd⟩ : ∃ x, x = L[j]'(by omega) := ⟨_, rfl⟩
        rw [← hxd] at hx HP
        have hjj : (i : Int) - 1 = (j : Int) := by omega
        have hjp : (0 : Int) < (i : Int) := by omega
        have hjl : (j : Int) < (L.length : Int) := by omega
        clear hxd hj hi0
        go_wp2_with fail
        go_meet
        exact ⟨by rw [HP.out], rfl⟩
    case rest =>
      obtain ⟨rfl, rfl⟩ := hcut
      have tpr : (pr != pr) = false := by simp
      go_upto_block 2 with fail
      go_cut [9] (fun iv wx => iv = .int .i64 i2 ∧ wx = wc)
      case first =>
        go_wp2_with fail
        go_loopg [9] L.length (fun g iv wr => PreRel L k wc g iv wr)
        case atStart => exact ⟨0, rfl, .inl rfl, hpos, rfl, rfl⟩
        case round =>
          obtain ⟨m, rfl, hm1, hm2, rfl, hwr⟩ := hrel
          obtain rfl : wr = wc := hwr
          have HM : Hid (m = 0 ∨ ∃ h : m < L.length, (L[m] : Int) < k) := hm1
          clear hm1
          obtain ⟨m1, hmd⟩ : ∃ m1, m1 = m + 1 := ⟨_, rfl⟩
          have hm1' : (m : Int) + 1 = (m1 : Int) := by omega
          by_cases hl : m1 < L.length
          · have hl' : (m1 : Int) < (L.length : Int) := by omega
            have hx := own_int HW5.out.row rfl hl
            by_cases hk : (L[m1] : Int) < k
            · have HN : Hid (m1 = 0 ∨ ∃ h : m1 < L.length, (L[m1] : Int) < k) := .inr ⟨hl, hk⟩
              obtain ⟨x, hxd⟩ : ∃ x, x = L[m1] := ⟨_, rfl⟩
              rw [← hxd] at hx hk
              have hmm : L.length - m1 < L.length - m := by omega
              clear hxd hmd
              go_wp2_with fail
              go_roundg (L.length - m1)
              case measure => exact hmm
              case rel => exact ⟨m1, rfl, HN.out, hl, rfl, rfl⟩
            · have HE : Hid (i2 = m) := by
                subst hmd
                exact HI2.out.one ⟨hm2, pre_le HB.out hm2 (.inr ⟨hl, by omega⟩), HM.out⟩
              obtain ⟨x, hxd⟩ : ∃ x, x = L[m1] := ⟨_, rfl⟩
              rw [← hxd] at hx hk
              clear hxd hmd
              go_wp2_with fail
              go_meet
              exact ⟨by rw [HE.out], rfl⟩
          · have hl' : ¬ (m1 : Int) < (L.length : Int) := by omega
            have HE : Hid (i2 = m) := HI2.out.one ⟨hm2, pre_le HB.out hm2 (.inl (by omega)), HM.out⟩
            clear hmd
            go_wp2_with fail
            go_meet
            exact ⟨by rw [HE.out], rfl⟩
      case rest =>
        obtain ⟨rfl, rfl⟩ := hcut
        have hil2 := HI2.out.1
        have tnr : (nr == nr) = true := beq_self_eq_true _
        obtain ⟨m1, hmd⟩ : ∃ m1, m1 = i2 + 1 := ⟨_, rfl⟩
        have hm1' : (i2 : Int) + 1 = (m1 : Int) := by omega
        by_cases hl : m1 < L.length
        · have hl' : (m1 : Int) < (L.length : Int) := by omega
          have hx := own_int HW5.out.row rfl hl
          have HP : Hid (nr = (L[m1] : Nat)) := by
            show _ = _
            subst hmd
            rw [HNR.out]; unfold nextR; rw [dif_pos hl]
          obtain ⟨x, hxd⟩ : ∃ x, x = L[m1] := ⟨_, rfl⟩
          rw [← hxd] at hx HP
          obtain rfl : nr = (x : Int) := HP.out
          clear hxd hmd
          go_wp2
          go_ret
          exact ⟨rfl, ⟨a4, HW5.out⟩, HK5.out⟩
        · have hl' : ¬ (m1 : Int) < (L.length : Int) := by omega
          obtain rfl : nr = -1 := by rw [HNR.out]; unfold nextR; rw [dif_neg (by omega)]
          clear hmd
          go_wp2
          go_ret
          exact ⟨rfl, ⟨a4, HW5.out⟩, HK5.out⟩

end Go.Proofs.YtlfpepehngkehabDoor
