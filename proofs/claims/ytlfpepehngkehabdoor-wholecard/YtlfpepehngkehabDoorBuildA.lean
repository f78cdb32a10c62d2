/-
  Walks: wordcut.Build.
-/
import Derived.Test.YtlfpepehngkehabDoorSetTake
import Derived.Test.YtlfpepehngkehabDoorMaths
import Derived.Test.YtlfpepehngkehabDoorStrsW
namespace Go.Proofs.YtlfpepehngkehabDoor
set_option linter.unusedSimpArgs false
set_option linter.unusedVariables false
open Go.RowKit

theorem SetAt.below {w w' : World} {t : TypeId} {b : Nat} {v : Value} {D : Dic} (h : SetAt w t b v D) (hb : Below w.heap.size w w') : SetAt w' t b v D := by
  have hl : b < w.heap.size := cell_lt h.cell
  exact ⟨(hb.cell (p := ⟨b, 0, none⟩) hl).trans h.cell, (hb.frozen (p := ⟨b, 0, none⟩) hl).trans h.frz, ownsRow_below h.own hb, h.ne⟩

set_option maxHeartbeats 1000000 in
theorem size_any (w : World) (b : Nat) (v : Value) (D : Dic) (hS : SetAt w 94 b v D) :
    Calls Tryd.prog 31 #[.pointer (some ⟨b, 0, none⟩)] w fun e w' => e = .returned (.int .i64 D.length) ∧ w' = w := by
  have hc := hS.cell
  rcases hS.shape with ⟨rfl, rfl⟩ | ⟨g, cap, rfl, _⟩
  · go_enter Tryd.func31, Tryd.ntmps31
    go_wp2
    go_ret
    exact ⟨rfl, rfl⟩
  · go_enter Tryd.func31, Tryd.ntmps31
    go_wp2
    go_ret
    exact ⟨rfl, rfl⟩

def BuildEnd (w w' : World) (ss : List ByteArray) (e : Ending) : Prop :=
  (∃ err : Int, e = .returned (.tuple #[.pointer none, .int .i64 err]) ∧ BuildNo ss err) ∨
  (∃ (b : Nat) (v : Value) (D : Dic), e = .returned (.tuple #[.pointer (some ⟨b, 0, none⟩), .int .i64 0]) ∧ BuildYes ss D ∧ SetAt w' 94 b v D ∧ w.heap.size ≤ b ∧ ∀ k, v.ownBlock = some k → w.heap.size ≤ k)

set_option maxHeartbeats 1000000 in
theorem build_any (w : World) (a : Option Addr) (cap : Nat) (ss : List ByteArray) (hA : StrsAt w a ss) (hn : ss.length ≤ 140737488355328) :
    Calls Tryd.prog 19 #[.slice a ss.length cap] w fun e w' => BuildEnd w w' ss e ∧ Below w.heap.size w w' := by
  by_cases h8 : ss.length ≤ 8
  · have hle : ¬ (8 : Int) < (ss.length : Int) := by omega
    have HA : Hid (StrsAt w a ss) := hA
    clear hA
    go_enter Tryd.func19, Tryd.ntmps19
    go_wp2_with fail
    go_loopw [17] (fun x wr => ∃ i : Nat, i ≤ ss.length ∧ x = .int .i64 i ∧ ∃ E D v, OkUpTo ss i E ∧ Rep D E ∧ D.length ≤ i * 2000 ∧ SetAt wr 94 w.heap.size v D ∧ Below w.heap.size w wr ∧ Hid (∀ k, v.ownBlock = some k → w.heap.size ≤ k)) (fun x _ => ss.length - (intOf x).toNat)
    case atStart =>
      refine ⟨0, by omega, rfl, [], [], .slice none 0 0, rfl, Rep.nil, by simp, ⟨?_, ?_, World.ownsRow_nil _ _ _ _, fun k hk => by simp [Value.ownBlock] at hk⟩, (Below.refl _ _).alloc (Nat.le_refl _) _, (show Hid _ from fun k hk => by simp [Value.ownBlock] at hk)⟩
      · simp
      · simp
    case round =>
      obtain ⟨i, hi, rfl, E, D, v, hE, hR, hl, hS, hbel, HV⟩ := hrel
      have HE : Hid (OkUpTo ss i E) := hE
      have HR : Hid (Rep D E) := hR
      have HS : Hid (SetAt wr 94 w.heap.size v D) := hS
      clear hE hR hS
      by_cases hlt : i < ss.length
      · have hA := (HA.out.below hbel)
        obtain ⟨hmx, hA⟩ := hA
        have hsz : ss[i].size ≤ maxLen := hmx _ (List.getElem_mem hlt)
        rcases hA with hA | ⟨ab, off, rfl, hA⟩
        · rw [hA] at hlt; simp at hlt
        · have hc := hA i hlt
          obtain ⟨s, hs⟩ : ∃ s, s = ss[i] := ⟨_, rfl⟩
          have HSi : Hid (s = ss[i]) := hs
          rw [← hs] at hc hsz
          clear hs hA hmx
          go_wp2_with fail
          refine (read_any s _ hsz).mono ?_
          rintro e w1 ⟨hres, hb1⟩
          have hbel1 := hbel.trans (hb1.mono hbel.size)
          rcases hres with ⟨h, rfl⟩ | ⟨h, p, rfl, hbad⟩ | ⟨h, E2, k, hk, rfl, hg, hc', hall⟩ | ⟨h, E2, rv, rfl, hg, hall, hle2, hown⟩
          · have HN : Hid (BuildNo ss 1) := .inr (.inl ⟨h8, i, E, 0, HE.out, ⟨hlt, by rw [← HSi.out]; exact .inl ⟨h, rfl, rfl⟩⟩, by decide⟩)
            go_wp2
            go_ret2
            exact ⟨.inl ⟨1, rfl, HN.out⟩, hbel1⟩
          · have HN : Hid (BuildNo ss 2) := .inr (.inl ⟨h8, i, E, p, HE.out, ⟨hlt, by rw [← HSi.out]; exact badList_res h hbad⟩, by decide⟩)
            clear hbad
            go_wp2
            go_ret2
            exact ⟨.inl ⟨2, rfl, HN.out⟩, hbel1⟩
          · have HN : Hid (BuildNo ss 3) := .inr (.inl ⟨h8, i, E, E2[k].dig, HE.out, ⟨hlt, by rw [← HSi.out]; exact goodList_cost h hg k hk hc' hall⟩, by decide⟩)
            clear hg hc' hall
            generalize E2[k].dig = d at *
            go_wp2
            go_ret2
            exact ⟨.inl ⟨3, rfl, HN.out⟩, hbel1⟩
          · have HO : Hid (OkUpTo ss (i + 1) (E ++ E2)) := ⟨E, E2, HE.out, ⟨hlt, by rw [← HSi.out]; exact ⟨h, hg, hall, hle2⟩⟩, rfl⟩
            have HX : Hid (∀ x ∈ E2, x.word.size ≤ 2000 ∧ x.cost ≤ 9999) := fun x hx => by have := goodList_ok' hg x hx; exact ⟨by have := this.2.1; omega, this.2.2⟩
            have HD : Hid (∀ k, rv.ownBlock = some k → k ≠ w.heap.size ∧ v.ownBlock ≠ some k) := fun k hk => by
              have h1 := (hown.lt k hk).1
              have h2 : w.heap.size < wr.heap.size := cell_lt HS.out.cell
              refine ⟨by omega, fun e => ?_⟩
              have h3 := (HS.out.own.lt k e).2
              omega
            have hE2 : E2.length ≤ 2000 := by omega
            clear hg hall
            go_wp2_with fail
            refine (take_any w1 w.heap.size v rv wr.heap.size D E E2 (HS.out.below hb1) HR.out (by omega) hE2 hown HD.out HX.out).mono ?_
            rintro e w2 ⟨rfl, D2, hR2, hl2, v2, hS2, hK2, ho2⟩
            have hbel2 : Below w.heap.size w w2 := hbel1.trans (hK2.below hbel1.size (fun k hk => by
              rcases hk with rfl | hk
              · exact Nat.le_refl _
              · exact HV.out k hk))
            have HV2 : Hid (∀ k, v2.ownBlock = some k → w.heap.size ≤ k) := fun k hk => by
              rcases ho2 k hk with a | a
              · exact HV.out k a
              · have := hbel1.size; omega
            clear hown ho2
            go_wp2
            go_roundw
            case rel => exact ⟨i + 1, by omega, by go_num, E ++ E2, D2, v2, HO.out, hR2, by omega, hS2, hbel2, HV2⟩
            case measure => simp [intOf]; omega
      · obtain rfl : i = ss.length := by omega
        by_cases h150 : D.length ≤ 150
        · have h150' : ¬ (150 : Int) < (D.length : Int) := by omega
          go_wp2_with fail
          refine (size_any wr w.heap.size v D HS.out).mono ?_
          rintro e w1 ⟨rfl, rfl⟩
          go_wp2
          go_ret2
          exact ⟨.inr ⟨w.heap.size, v, D, rfl, ⟨h8, E, HE.out, HR.out, h150⟩, HS.out, Nat.le_refl _, HV.out⟩, hbel⟩
        · have h150' : (150 : Int) < (D.length : Int) := by omega
          go_wp2_with fail
          refine (size_any wr w.heap.size v D HS.out).mono ?_
          rintro e w1 ⟨rfl, rfl⟩
          go_wp2
          go_ret2
          exact ⟨.inl ⟨4, rfl, .inr (.inr ⟨h8, E, D, HE.out, HR.out, by omega, rfl⟩)⟩, hbel⟩
  · have hgt : (8 : Int) < (ss.length : Int) := by omega
    go_enter Tryd.func19, Tryd.ntmps19
    go_wp2
    go_ret2
    exact ⟨.inl ⟨4, rfl, .inl ⟨by omega, rfl⟩⟩, Below.refl _ _⟩

end Go.Proofs.YtlfpepehngkehabDoor
