/-
  Walks: Prefixes of the program's set.
-/
import Derived.Test.YtlfpepehngkehabDoorPrefix
import Derived.Test.YtlfpepehngkehabDoorBuildA
namespace Go.Proofs.YtlfpepehngkehabDoor
set_option linter.unusedSimpArgs false
set_option linter.unusedVariables false
open Go.RowKit

set_option maxHeartbeats 1000000 in
set_option maxRecDepth 20000 in
theorem setPrefixes_any (w : World) (b : Nat) (v : Value) (D : Dic) (s : ByteArray) (hs : s.size ≤ maxLen) (hS : SetAt w 94 b v D) (hsrt : Srt D) (hD : D.length ≤ 150) (hw : ∀ p ∈ D, 1 ≤ p.1.size ∧ p.1.size ≤ 12) :
    Calls Tryd.prog 66 #[.pointer (some ⟨b, 0, none⟩), .string s] w fun e w' => ∃ v' H, e = .returned v' ∧ Hits D s H ∧ H.length ≤ 12 ∧ w'.ownsRow w.heap.size 105 2 v' H.length (hitCells H) ∧ Below w.heap.size w w' := by
  obtain ⟨i0, hi, hz0, hz1, hz2⟩ := info_parts Tryd.infoHit
  have hs' := hs
  unfold maxLen at hs
  have HW : Hid (∀ p ∈ D, 1 ≤ p.1.size ∧ p.1.size ≤ 12) := hw
  have HSR : Hid (Srt D) := hsrt
  clear hw hsrt
  go_enter Tryd.func66, Tryd.ntmps66
  go_wp2_with fail
  go_loopw [5, 6] (fun hv lv wr => ∃ (n : Nat) (H : List (Nat × Nat)), 1 ≤ n ∧ n ≤ 13 ∧ n ≤ s.size + 1 ∧ lv = .int .i64 n ∧ HitsUpTo D s n H ∧ H.length + 1 ≤ n ∧ wr.ownsRow w.heap.size 105 2 hv H.length (hitCells H) ∧ Below w.heap.size w wr) (fun _ lv _ => 14 - (intOf lv).toNat)
  case atStart => exact ⟨1, [], by omega, by omega, by omega, rfl, HitsUpTo.start D s, by simp, World.ownsRow_nil _ _ _ _, Below.refl _ _⟩
  case round =>
    obtain ⟨n, H, hn1, hn13, hns, rfl, hH, hHl, hown, hbel⟩ := hrel
    have HH : Hid (HitsUpTo D s n H) := hH
    have HS1 : Hid (SetAt wr 94 b v D) := hS.below hbel
    clear hH
    by_cases h12 : n ≤ 12
    · by_cases hsz : n ≤ s.size
      · have hii : (n : Int) ≤ (s.size : Int) := by omega
        go_wp2_with fail
        refine (find_any wr b v D _ HS1.out HSR.out (by omega)).mono ?_
        rintro e w1 ⟨⟨k, f, rfl, hsp, hf⟩, rfl⟩
        cases f with
        | false =>
          have HM : Hid (HitsUpTo D s (n + 1) H) := HH.out.miss fun c hc => by
            obtain ⟨j, hj, e⟩ := List.mem_iff_getElem.1 hc
            obtain ⟨_, h1, h2⟩ := hsp
            have hjk : ¬ j < k := fun hlt => by have := h1 j hj hlt; rw [e] at this; simp [wl_irrefl] at this
            have hkd : k < D.length := by omega
            by_cases ejk : j = k
            · subst ejk
              have := hf.2 ⟨hj, by rw [e]⟩
              cases this
            · have h3 := srt_before HSR.out hj (show k < j by omega)
              rw [e] at h3
              have := h2 k hkd (Nat.le_refl _)
              rw [h3] at this
              cases this
          clear hf hsp
          go_wp2
          go_roundw
          case rel => exact ⟨n + 1, H, by omega, by omega, by omega, by go_num, HM.out, by omega, hown, hbel⟩
          case measure => simp [intOf]; omega
        | true =>
          obtain ⟨hkl, hkx⟩ := hf.1 rfl
          have HM : Hid (HitsUpTo D s (n + 1) (H ++ [(n, D[k].2)])) := HH.out.hit HSR.out hn1 hsz (by rw [← hkx]; exact List.getElem_mem hkl)
          rcases HS1.out.shape with ⟨rfl, rfl⟩ | ⟨g, cap, rfl, hbg, hcap, hmax, hgs⟩
          · simp at hkl
          · have hc := HS1.out.cell
            obtain ⟨_, hc1⟩ := own_pair HS1.out.own rfl hkl
            obtain ⟨c, hcc⟩ : ∃ c, c = D[k].2 := ⟨_, rfl⟩
            rw [← hcc] at hc1
            have HC : Hid (c = D[k].2) := hcc
            have hsz1 := hbel.size
            clear hcc hf hkx hsp
            go_wp2_with (at_builtin; refine wpList_append_own _ rfl _ _ 95 rfl w.heap.size 105 i0 _ 2 16 Tryd.underlying95 hi hz0 hz1 hz2 rfl (by decide) _ _ _ rfl (hown.alloc _) ⟨w1.heap.size, 0, none⟩ 1 1 [.int .i64 n, .int .i64 c] rfl rfl (news2i _ _ _ _ _ rfl) (one2i _ _) (by unfold maxLen; omega) (by omega) (by simp; omega) ?_)
            intro v' w2 hown' hgrow _
            have hb3 : Below w.heap.size w w2 := (hbel.alloc hsz1 _).grown hgrow (by simp; omega) (fun g hg => (hown.lt g hg).1)
            have hown2 : w2.ownsRow w.heap.size 105 2 v' (H ++ [(n, c)]).length (hitCells (H ++ [(n, c)])) := by
              rw [hitCells_append, List.length_append]; exact hown'
            clear hgrow hown'
            go_wp2
            go_roundw
            case rel => exact ⟨n + 1, H ++ [(n, c)], by omega, by omega, by omega, by go_num, by rw [HC.out]; exact HM.out, by simp; omega, hown2, hb3⟩
            case measure => simp [intOf]; omega
      · have HA : Hid (Hits D s H) := HH.out.all HW.out (.inr (by omega))
        have hii : ¬ (n : Int) ≤ (s.size : Int) := by omega
        go_wp2
        go_ret
        exact ⟨_, rfl, H, HA.out, by omega, hown, hbel⟩
    · have HA : Hid (Hits D s H) := HH.out.all HW.out (.inl (by omega))
      go_wp2
      go_ret
      exact ⟨_, rfl, H, HA.out, by omega, hown, hbel⟩

end Go.Proofs.YtlfpepehngkehabDoor
