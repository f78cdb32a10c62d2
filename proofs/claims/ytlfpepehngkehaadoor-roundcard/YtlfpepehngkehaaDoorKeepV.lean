/-
  Walks: two dictionaries that answer alike.
-/
import Derived.Test.YtlfpepehngkehaaDoorKeepRS
import Derived.Test.YtlfpepehngkehaaDoorPrefixW
import Derived.Test.YtlfpepehngkehaaDoorTakeC
import Derived.Test.YtlfpepehngkehaaDoorCutI
namespace Go.Proofs.YtlfpepehngkehaaDoor
set_option linter.unusedSimpArgs false
set_option linter.unusedVariables false
open Go.RowKit

def LikeLoop (w : World) (n g : Nat) (y : Value) (wr : World) : Prop := ∃ i : Nat, g = n - i ∧ i ≤ n ∧ y = .int .i64 i ∧ Same w wr

set_option maxHeartbeats 4000000 in
set_option maxRecDepth 20000 in
theorem like_any (HC : CutOk) (w : World) (b1 b2 : Nat) (v1 v2 : Value) (D : Dic) (s : ByteArray) (hs : s.size ≤ 500) (hg : GoodDic D) (h1 : SetAt w 95 b1 v1 D) (h2 : SetAt w 95 b2 v2 D) :
    Calls Tryd.prog 18 #[.pointer (some ⟨b1, 0, none⟩), .pointer (some ⟨b2, 0, none⟩), .string s] w fun e w' => e = .returned (.bool true) ∧ Below w.heap.size w w' := by
  have HCC : Hid CutOk := HC
  clear HC
  have H1 : Hid (SetAt w 95 b1 v1 D) := h1
  have H2 : Hid (SetAt w 95 b2 v2 D) := h2
  have HG : Hid (GoodDic D) := hg
  have HW : Hid (∀ p ∈ D, p.1.size ≤ 12 ∧ p.2 ≤ 1000) := fun p hp => ⟨(hg.2.2 p hp).1.2.1, (hg.2.2 p hp).2⟩
  have HW1 : Hid (∀ p ∈ D, 1 ≤ p.1.size ∧ p.1.size ≤ 12) := fun p hp => ⟨(hg.2.2 p hp).1.1, (hg.2.2 p hp).1.2.1⟩
  have hl : D.length ≤ 150 := hg.1
  have hs' : s.size ≤ maxLen := by unfold maxLen; omega
  clear h1 h2 hg
  go_enter Tryd.func18, Tryd.ntmps18
  go_wp2_with fail
  refine (dictSize_any w b1 v1 D H1.out).mono ?_
  rintro e w0 ⟨rfl, rfl⟩
  go_wp2_with fail
  refine (dictSize_any w0 b2 v2 D H2.out).mono ?_
  rintro e w0 ⟨rfl, rfl⟩
  go_wp2_with fail
  refine (dictImage_any w0 b1 v1 D H1.out hl HW.out).mono ?_
  rintro e w1 ⟨S, rfl, hS, hb1⟩
  go_wp2_with fail
  refine (dictImage_any w1 b2 v2 D (H2.out.below hb1) hl HW.out).mono ?_
  rintro e w2 ⟨S', rfl, hS', hb2⟩
  obtain rfl : S' = S := ba_ext (by rw [hS, hS'])
  have hB2 : Below w0.heap.size w0 w2 := hb1.trans (hb2.mono hb1.size)
  have hz2 := hB2.size
  clear hS hS' hb1 hb2
  go_wp2_with fail
  refine (dictPrefixes_any w2 b1 v1 D s hs' (H1.out.below hB2) HG.out.2.1 hl HW1.out).mono ?_
  rintro e w3 ⟨p1, P, rfl, hP, hPl, ho3, hb3⟩
  have hB3 : Below w0.heap.size w0 w3 := hB2.trans (hb3.mono hz2)
  have hz3 := hB3.size
  go_wp2_with fail
  refine (dictPrefixes_any w3 b2 v2 D s hs' (H2.out.below hB3) HG.out.2.1 hl HW1.out).mono ?_
  rintro e w4 ⟨p2, P', rfl, hP', hPl', ho4, hb4⟩
  obtain rfl : P' = P := hP'.unique hP
  have hB4 : Below w0.heap.size w0 w4 := hB3.trans (hb4.mono hz3)
  have hz4 := hB4.size
  have ho3' := ownsRow_below' ho3 hb4
  clear hP hP' ho3 hb3 hb4 hPl'
  go_wp2_with fail
  refine (HCC.out w4 b1 v1 D s hs HG.out (H1.out.below hB4)).mono ?_
  rintro e w5 ⟨c1, L, rfl, hL, ho5, hb5⟩
  have hLl := hL.length HG.out hs
  have hB5 : Below w0.heap.size w0 w5 := hB4.trans (hb5.mono hz4)
  have hz5 := hB5.size
  have ho3'' := ownsRow_below' ho3' hb5
  have ho4' := ownsRow_below' ho4 hb5
  clear ho3' ho4 hb5
  go_wp2_with fail
  refine (HCC.out w5 b2 v2 D s hs HG.out (H2.out.below hB5)).mono ?_
  rintro e w6 ⟨c2, L', rfl, hL', ho6, hb6⟩
  obtain rfl : L' = L := hL'.one hL
  have hB6 : Below w0.heap.size w0 w6 := hB5.trans (hb6.mono hz5)
  have h1r := ownsRow_below' ho3'' hb6
  have h2r := ownsRow_below' ho4' hb6
  have h3r := ownsRow_below' ho5 hb6
  have HB6 : Hid (Below w0.heap.size w0 w6) := hB6
  obtain ⟨a1, k1, rfl, hg1⟩ := row_form h1r
  obtain ⟨a2, k2, rfl, hg2⟩ := row_form h2r
  obtain ⟨a3, k3, rfl, _⟩ := row_form h3r
  obtain ⟨a4, k4, rfl, _⟩ := row_form ho6
  have HO5 : Hid (w6.ownsRow w4.heap.size 3 1 (.slice a3 L'.length k3) L'.length (intCells L')) := h3r
  have HO6 : Hid (w6.ownsRow w5.heap.size 3 1 (.slice a4 L'.length k4) L'.length (intCells L')) := ho6
  have HO1 : Hid (w6.ownsRow w2.heap.size 56 2 (.slice a1 P'.length k1) P'.length (hitCells P')) := h1r
  have HO2 : Hid (w6.ownsRow w3.heap.size 56 2 (.slice a2 P'.length k2) P'.length (hitCells P')) := h2r
  have HG1 : Hid (P'.length ≠ 0 → ∃ g, a1 = some ⟨g, 0, none⟩) := hg1
  have HG2 : Hid (P'.length ≠ 0 → ∃ g, a2 = some ⟨g, 0, none⟩) := hg2
  clear hL hL' ho3'' ho4' ho5 ho6 hb6 hB2 hB3 hB4 hB5 hB6 h1r h2r h3r hg1 hg2
  have t0 : ((P'.length : Int) != (P'.length : Int)) = false := by simp
  have t1 : ((D.length : Int) == (D.length : Int)) = true := beq_self_eq_true _
  have t2 : (S'.toList == S'.toList) = true := beq_self_eq_true _
  go_wp2_with fail
  go_loopg [17] P'.length (fun g y wr => LikeLoop w6 P'.length g y wr)
  case atStart => exact ⟨0, rfl, Nat.zero_le _, rfl, Same.refl _⟩
  case round =>
    obtain ⟨i, rfl, hi, rfl, hsame⟩ := hrel
    by_cases hlt : i < P'.length
    · obtain ⟨g1, rfl⟩ := HG1.out (by omega)
      obtain ⟨g2, rfl⟩ := HG2.out (by omega)
      obtain ⟨hx1, hx2⟩ := own_hit (hsame.row HO1.out) rfl hlt
      obtain ⟨hy1, hy2⟩ := own_hit (hsame.row HO2.out) rfl hlt
      generalize P'[i] = p at hx1 hx2 hy1 hy2
      have hli : (i : Int) < (P'.length : Int) := by omega
      go_wp2_with fail
      go_quiet (fail)
      go_wp2_with fail
      go_roundg (P'.length - (i + 1))
      case measure => omega
      case rel => exact ⟨i + 1, rfl, hlt, by go_num, Kept.drewN hsame _⟩
    · have hb7 : Below w0.heap.size w0 wr := Same.below hsame HB6.out HB6.out.size
      go_wp2_with fail
      refine (keepSame_any wr _ _ _ _ L' L' (hsame.row HO5.out) (hsame.row HO6.out) rfl (by omega)).mono ?_
      rintro e w8 ⟨rfl, hs8⟩
      have hb8 : Below w0.heap.size w0 w8 := Same.below hs8 hb7 hb7.size
      clear hs8 hb7
      go_wp2
      go_ret
      exact ⟨rfl, hb8⟩

end Go.Proofs.YtlfpepehngkehaaDoor
