/-
  Walks: Cheapest and Farthest.
-/
import Derived.Test.YtlfpepehngkehaaDoorKeepU
import Derived.Test.YtlfpepehngkehaaDoorKeepN
import Derived.Test.YtlfpepehngkehaaDoorKeepQ
import Derived.Test.YtlfpepehngkehaaDoorKeepM
import Derived.Test.YtlfpepehngkehaaDoorCutI
import Derived.Deep.CutRange
import Derived.Deep.DeepCutAuto
namespace Go.Proofs.YtlfpepehngkehaaDoor
set_option linter.unusedSimpArgs false
set_option linter.unusedVariables false
open Go.RowKit

theorem tabTo_costs (raw : List Int) : ∀ n, ∀ p ∈ tabTo raw n, p.2 ≤ 1000
  | 0, p, h => by simp [tabTo] at h
  | n + 1, p, h => by
    simp only [tabTo] at h
    rcases tput_mem h with h | rfl
    · exact tabTo_costs raw n p h
    · have := entN_le (rw2 raw n)
      simp only [entCost]
      split <;> omega

theorem made_words {raw : List Int} {D : Dic} (h : Rep D (eAB raw)) : ∀ p ∈ D, p.1.size ≤ 4 := by
  intro p hp
  have hc := (tab_dic (eAB_tab raw) h p.1 p.2).1 hp
  by_cases hm : ∃ q ∈ tabTo raw (nE raw), q.1 = p.1
  · obtain ⟨q, hq, e⟩ := hm
    have key : ∀ n, ∀ q ∈ tabTo raw n, q.1.size ≤ 4 := by
      intro n
      induction n with
      | zero => intro q hq; simp [tabTo] at hq
      | succ n ih =>
        intro q hq
        simp only [tabTo] at hq
        rcases tput_mem hq with hq | rfl
        · exact ih q hq
        · exact wordOf_size _
    rw [← e]; exact key _ q hq
  · have hn : tcost (tabTo raw (nE raw)) p.1 = -1 := tcost_none fun j hj e => hm ⟨_, List.getElem_mem hj, e⟩
    rw [hn] at hc
    omega

set_option maxHeartbeats 2000000 in
set_option maxRecDepth 20000 in
theorem cheapest_walk (HC : CutOk) (w : World) (ap ap2 ap3 : Option Addr) (cp cp2 cp3 : Nat) (raw letters other : List Int) (HI : ItoaIn w.heap.size w) (hR : IntsAt w ap raw) (hlen : raw.length ≤ 9223372036854775807)
    (hR2 : IntsAt w ap2 letters) (hlen2 : letters.length ≤ 9223372036854775807) (hR3 : IntsAt w ap3 other) (hlen3 : other.length ≤ 9223372036854775807) :
    Calls Tryd.prog 3 #[.slice ap raw.length cp, .slice ap2 letters.length cp2, .slice ap3 other.length cp3] w fun e w' => e = .returned (.bool true) ∧ Below w.heap.size w w' := by
  have HCC : Hid CutOk := HC
  have HIT : Hid (ItoaIn w.heap.size w) := HI
  have HR : Hid (IntsAt w ap raw) := hR
  have HR2 : Hid (IntsAt w ap2 letters) := hR2
  have HR3 : Hid (IntsAt w ap3 other) := hR3
  clear HI hR hR2 hR3 HC
  go_enter Tryd.func3, Tryd.ntmps3
  go_wp2_with fail
  refine (made_any w ap cp raw HIT.out HR.out hlen).mono ?_
  rintro e w1 ⟨b, v, D, Wv, Cv, rfl, hM, hb1⟩
  have HM1 : Hid (MadeAt raw w1 b v D w.heap.size Wv Cv) := hM
  have hTl := hM.tl
  have hz1 := hb1.size
  clear hM
  go_wp2_with fail
  refine (text_any w1 ap2 cp2 letters (HR2.out.below hb1) hlen2 97 (by omega)).mono ?_
  rintro e w2 ⟨rfl, hb2⟩
  have HM2 : Hid (MadeAt raw w2 b v D w.heap.size Wv Cv) := HM1.out.below hb2
  have hB2 : Below w.heap.size w w2 := hb1.trans (hb2.mono hz1)
  have hz2 := hB2.size
  have HRUN : Hid (OneRun (textOf letters 97) 115) := textOf_run letters
  have hs : (textOf letters 97).size ≤ 60 := by rw [textOf_size]; unfold nT; omega
  obtain ⟨s, hse⟩ : ∃ s, s = textOf letters 97 := ⟨_, rfl⟩
  rw [← hse] at HRUN hs ⊢
  clear hse hb1 hb2 HM1
  go_wp2_with fail
  refine (HCC.out w2 b v D s (by omega) HM2.out.gd HM2.out.st).mono ?_
  rintro e w3 ⟨lv, L, rfl, hL, ho3, hb3⟩
  have HLR : Hid (CutRes D s L) := hL
  have hLl := hL.length HM2.out.gd (by omega)
  have HLB : Hid (Bounds L s.size) := hL.bounds HM2.out.gd
  have HM3 : Hid (MadeAt raw w3 b v D w.heap.size Wv Cv) := HM2.out.below hb3
  have hB3 : Below w.heap.size w w3 := hB2.trans (hb3.mono hz2)
  have hz3 := hB3.size
  obtain ⟨al, cl, rfl, _⟩ := row_form ho3
  have HO3 : Hid (w3.ownsRow w2.heap.size 3 1 (.slice al L.length cl) L.length (intCells L)) := ho3
  clear hL ho3 hb3 hB2 HM2
  go_wp2_with fail
  refine (rises_any w3 _ s.size _ L HO3.out HLB.out (by omega) (by omega)).mono ?_
  rintro e w4 ⟨rfl, hs4⟩
  have HB4 : Hid (Below w.heap.size w w4) := Same.below hs4 hB3 hz3
  have HM4 : Hid (MadeAt raw w4 b v D w.heap.size Wv Cv) := ⟨HM3.out.rp, HM3.out.gd, ⟨(Kept.cell hs4 (p := ⟨b, 0, none⟩) (cell_lt HM3.out.st.cell) id).trans HM3.out.st.cell, (Kept.frozen hs4 (p := ⟨b, 0, none⟩) (cell_lt HM3.out.st.cell) id).trans HM3.out.st.frz, hs4.row HM3.out.st.own, HM3.out.st.ne⟩, HM3.out.tb.same hs4⟩
  have HO4 : Hid (w4.ownsRow w2.heap.size 3 1 (.slice al L.length cl) L.length (intCells L)) := hs4.row HO3.out
  have hz4 := HB4.out.size
  have HTC : Hid (∀ p ∈ tabTo raw (nE raw), p.2 ≤ 1000) := tabTo_costs raw (nE raw)
  have HTR : Hid (TabRep (tabTo raw (nE raw)) (eAB raw)) := eAB_tab raw
  obtain ⟨T, hT⟩ : ∃ T, T = tabTo raw (nE raw) := ⟨_, rfl⟩
  have HTB4 : Hid (TabAt w4 w.heap.size T Wv Cv) := by rw [hT]; exact HM4.out.tb
  rw [← hT] at hTl HTC HTR
  clear hs4 hB3 HM3 HO3 hT
  go_wp2_with fail
  refine (way_any w4 w.heap.size T Wv Cv HTB4.out (by omega) s (by omega) ap3 cp3 other (HR3.out.below HB4.out) hlen3).mono ?_
  rintro e w5 ⟨⟨wv, W, rfl, hW, ho5⟩, hb5⟩
  obtain ⟨hWB, hWl, -, -⟩ := hW.facts
  have HW : Hid (TW T s s.size W) := hW
  have HWB : Hid (Bounds W s.size) := hWB
  have HO5 : Hid (w5.ownsRow w2.heap.size 3 1 (.slice al L.length cl) L.length (intCells L)) := ownsRow_below' HO4.out hb5
  have HTB5 : Hid (TabAt w5 w.heap.size T Wv Cv) := HTB4.out.same (Kept.of_below hb5 _)
  have HB5 : Hid (Below w.heap.size w w5) := HB4.out.trans (hb5.mono hz4)
  obtain ⟨aw, cw, rfl, _⟩ := row_form ho5
  have HOW : Hid (w5.ownsRow w4.heap.size 3 1 (.slice aw W.length cw) W.length (intCells W)) := ho5
  have HH : Hid (0 ≤ tot T s L ∧ (tot T s L < tot T s W ∨ (tot T s L = tot T s W ∧ klt W L = false))) := cheapest_holds HTR.out HM4.out.rp HM4.out.gd.small HRUN.out HLR.out hW
  clear hW hWB ho5 hb5 HB4 HTB4 HO4
  go_wp2_with fail
  refine (total_any w5 w.heap.size _ T Wv Cv _ L HTB5.out (by omega) HTC.out s (by omega) HO5.out HLB.out (by omega)).mono ?_
  rintro e w6 ⟨rfl, hs6⟩
  have HTB6 : Hid (TabAt w6 w.heap.size T Wv Cv) := HTB5.out.same hs6
  have HB6 : Hid (Below w.heap.size w w6) := Same.below hs6 HB5.out HB5.out.size
  have HO6 : Hid (w6.ownsRow w2.heap.size 3 1 (.slice al L.length cl) L.length (intCells L)) := hs6.row HO5.out
  have HOW6 : Hid (w6.ownsRow w4.heap.size 3 1 (.slice aw W.length cw) W.length (intCells W)) := hs6.row HOW.out
  clear hs6 HB5 HTB5 HO5 HOW
  go_wp2_with fail
  refine (total_any w6 w.heap.size _ T Wv Cv _ W HTB6.out (by omega) HTC.out s (by omega) HOW6.out HWB.out (by omega)).mono ?_
  rintro e w7 ⟨rfl, hs7⟩
  have HB7 : Hid (Below w.heap.size w w7) := Same.below hs7 HB6.out HB6.out.size
  have HO7 : Hid (w7.ownsRow w2.heap.size 3 1 (.slice al L.length cl) L.length (intCells L)) := hs7.row HO6.out
  have HOW7 : Hid (w7.ownsRow w4.heap.size 3 1 (.slice aw W.length cw) W.length (intCells W)) := hs7.row HOW6.out
  clear hs7 HB6 HO6 HOW6
  go_wp2_with fail
  refine (keepLess_any w7 _ _ _ _ W L HOW7.out HO7.out (by omega) (by omega)).mono ?_
  rintro e w8 ⟨rfl, hs8⟩
  have HB8 : Hid (Below w.heap.size w w8) := Same.below hs8 HB7.out HB7.out.size
  obtain ⟨m1, hm1⟩ : ∃ m, m = tot T s L := ⟨_, rfl⟩
  obtain ⟨m2, hm2⟩ : ∃ m, m = tot T s W := ⟨_, rfl⟩
  obtain ⟨kl, hkl⟩ : ∃ k, k = klt W L := ⟨_, rfl⟩
  have hh := HH.out
  rw [← hm1, ← hm2, ← hkl] at hh ⊢
  clear hs8 hm1 hm2 hkl HH
  obtain ⟨h0, hh⟩ := hh
  rcases hh with hh | ⟨rfl, rfl⟩
  · go_wp2
    go_ret
    exact ⟨rfl, HB8.out⟩
  · have tl : ¬ m1 < m1 := by omega
    have te : (m1 == m1) = true := beq_self_eq_true _
    go_wp2
    go_ret
    exact ⟨rfl, HB8.out⟩

def FarLoop (L : List Nat) (w : World) (g : Nat) (y : Value) (wr : World) : Prop := ∃ i : Nat, g = L.length - i ∧ 1 ≤ i ∧ i ≤ L.length ∧ y = .int .i64 i ∧ Same w wr

set_option maxHeartbeats 2000000 in
set_option maxRecDepth 20000 in
theorem farthest_walk (HC : CutOk) (w : World) (ap ap2 : Option Addr) (cp cp2 : Nat) (raw letters : List Int) (HI : ItoaIn w.heap.size w) (hR : IntsAt w ap raw) (hlen : raw.length ≤ 9223372036854775807)
    (hR2 : IntsAt w ap2 letters) (hlen2 : letters.length ≤ 9223372036854775807) :
    Calls Tryd.prog 4 #[.slice ap raw.length cp, .slice ap2 letters.length cp2] w fun e w' => e = .returned (.bool true) ∧ Below w.heap.size w w' := by
  have HCC : Hid CutOk := HC
  have HIT : Hid (ItoaIn w.heap.size w) := HI
  have HR : Hid (IntsAt w ap raw) := hR
  have HR2 : Hid (IntsAt w ap2 letters) := hR2
  clear HI hR hR2 HC
  go_enter Tryd.func4, Tryd.ntmps4
  go_wp2_with fail
  refine (made_any w ap cp raw HIT.out HR.out hlen).mono ?_
  rintro e w1 ⟨b, v, D, Wv, Cv, rfl, hM, hb1⟩
  have HM1 : Hid (MadeAt raw w1 b v D w.heap.size Wv Cv) := hM
  have hTl := hM.tl
  have hz1 := hb1.size
  clear hM
  go_wp2_with fail
  refine (text_any w1 ap2 cp2 letters (HR2.out.below hb1) hlen2 65 (by omega)).mono ?_
  rintro e w2 ⟨rfl, hb2⟩
  have HM2 : Hid (MadeAt raw w2 b v D w.heap.size Wv Cv) := HM1.out.below hb2
  have hB2 : Below w.heap.size w w2 := hb1.trans (hb2.mono hz1)
  have hz2 := hB2.size
  have HRUN : Hid (OneRun (textOf letters 65) 99) := textOfA_run letters
  have hs : (textOf letters 65).size ≤ 60 := by rw [textOf_size]; unfold nT; omega
  obtain ⟨s, hse⟩ : ∃ s, s = textOf letters 65 := ⟨_, rfl⟩
  rw [← hse] at HRUN hs ⊢
  clear hse hb1 hb2 HM1
  go_wp2_with fail
  refine (HCC.out w2 b v D s (by omega) HM2.out.gd HM2.out.st).mono ?_
  rintro e w3 ⟨lv, L, rfl, hL, ho3, hb3⟩
  have HLR : Hid (CutRes D s L) := hL
  have hLl := hL.length HM2.out.gd (by omega)
  have HLB : Hid (Bounds L s.size) := hL.bounds HM2.out.gd
  have hpos : 0 < L.length := List.length_pos_of_mem HLB.out.zero
  have HRT : Hid (∀ k (h : k + 1 < L.length), RightOk (tabTo raw (nE raw)) s (L[k]'(by omega)) L[k + 1]) := farthest_holds (eAB_tab raw) HM2.out.rp HM2.out.gd.small (made_words HM2.out.rp) HRUN.out hL
  have HTB3 : Hid (TabAt w3 w.heap.size (tabTo raw (nE raw)) Wv Cv) := HM2.out.tb.same (Kept.of_below hb3 _)
  obtain ⟨T, hT⟩ : ∃ T, T = tabTo raw (nE raw) := ⟨_, rfl⟩
  rw [← hT] at hTl HRT HTB3
  have hB3 : Below w.heap.size w w3 := hB2.trans (hb3.mono hz2)
  have hz3 := hB3.size
  obtain ⟨al, cl, rfl, hgl⟩ := row_form ho3
  obtain ⟨gl, rfl⟩ := hgl (by omega)
  have HO3 : Hid (w3.ownsRow w2.heap.size 3 1 (.slice (some ⟨gl, 0, none⟩) L.length cl) L.length (intCells L)) := ho3
  clear hL ho3 hb3 hB2 HM2 hT hgl
  go_wp2_with fail
  refine (rises_any w3 _ s.size _ L HO3.out HLB.out (by omega) (by omega)).mono ?_
  rintro e w4 ⟨rfl, hs4⟩
  have HB4 : Hid (Below w.heap.size w w4) := Same.below hs4 hB3 hz3
  have HO4 : Hid (w4.ownsRow w2.heap.size 3 1 (.slice (some ⟨gl, 0, none⟩) L.length cl) L.length (intCells L)) := hs4.row HO3.out
  have HTB4 : Hid (TabAt w4 w.heap.size T Wv Cv) := HTB3.out.same hs4
  clear hs4 hB3 HO3 HTB3
  go_wp2_with fail
  go_loopg [11] (L.length - 1) (fun g y wr => FarLoop L w4 g y wr)
  case atStart => exact ⟨1, by omega, by omega, by omega, rfl, Same.refl _⟩
  case round =>
    obtain ⟨i, rfl, hi1, hi, rfl, hsm⟩ := hrel
    by_cases hlt : i < L.length
    · obtain ⟨j, hj⟩ : ∃ j, i = j + 1 := ⟨i - 1, by omega⟩
      have hx := own_int (hsm.row HO4.out) rfl (show j < L.length by omega)
      have hy := own_int (hsm.row HO4.out) rfl hlt
      have hrise := List.pairwise_iff_getElem.1 HLB.out.srt j i (by omega) hlt (by omega)
      have hle := HLB.out.le L[i] (List.getElem_mem hlt)
      have hok : RightOk T s (L[j]'(by omega)) L[i] := by subst hj; exact HRT.out j hlt
      obtain ⟨x, hxd⟩ : ∃ x, x = L[j]'(by omega) := ⟨_, rfl⟩
      obtain ⟨y, hyd⟩ : ∃ y, y = L[i] := ⟨_, rfl⟩
      rw [← hxd] at hx hrise hok
      rw [← hyd] at hy hrise hok hle
      have hright : ∀ W : World, Same w4 W → Calls Tryd.prog 14 #[.pointer (some ⟨w.heap.size, 0, none⟩), .string s, .int .i64 x, .int .i64 y] W fun e w' => e = .returned (.bool true) ∧ w' = W :=
        fun W hW => right_any W w.heap.size T Wv Cv (HTB4.out.same hW) (by omega) s (by omega) x y hrise hle hok
      have hj1 : (i : Int) - 1 = (j : Int) := by omega
      have hjl : (j : Int) < (L.length : Int) := by omega
      have hil : (i : Int) < (L.length : Int) := by omega
      have hwj : IntKind.i64.wrap (j : Int) = (j : Int) := by rw [IntKind.wrap_i64]; omega
      clear hxd hyd hok hj
      go_upto_region 12 with fail
      go_cut [12] (fun y wx => y = .bool true ∧ Same w4 wx)
      case first =>
        go_region_with (go_at_call 14; go_must (refine (hright _ (Kept.drew hsm)).mono ?_); rintro e w5 ⟨rfl, rfl⟩)
        all_goals
          go_wp2_with fail
          go_meet
          exact ⟨rfl, Kept.drew hsm⟩
      case rest =>
        obtain ⟨rfl, hsm2⟩ := hcut
        clear hx hy hright hsm
        go_wp2_with fail
        go_roundg (L.length - (i + 1))
        case measure => omega
        case rel => exact ⟨i + 1, rfl, by omega, by omega, by go_num, hsm2⟩
    · obtain rfl : i = L.length := by omega
      go_wp2_with fail
      go_ret
      exact ⟨rfl, Same.below hsm HB4.out HB4.out.size⟩

end Go.Proofs.YtlfpepehngkehaaDoor
