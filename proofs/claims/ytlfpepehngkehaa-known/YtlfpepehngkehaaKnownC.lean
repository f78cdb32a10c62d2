/-
  Known: the examples of Size, Prefixes and Image.
-/
import Derived.Test.YtlfpepehngkehaaKnownA
import Derived.Test.YtlfpepehngkehaaPrefixW
import Derived.Test.YtlfpepehngkehaaTakeC
namespace Go.Proofs.Ytlfpepehngkehaa
set_option linter.unusedSimpArgs false
set_option linter.unusedVariables false
open Go.RowKit

theorem exD_hits : hitsOf exD exT0 = [(2, 20), (3, 30)] := by kernel_rfl
theorem exD_len : exD.length = 14 := rfl

def imgL : List UInt8 := [87, 67, 2, 0, 0, 2, 97, 98, 44, 1, 2, 1, 99, 7, 0, 5]
def imgCells : Array Value := #[.int .u8 87, .int .u8 67, .int .u8 2, .int .u8 0, .int .u8 0, .int .u8 2, .int .u8 97, .int .u8 98, .int .u8 44, .int .u8 1, .int .u8 2, .int .u8 1, .int .u8 99, .int .u8 7, .int .u8 0, .int .u8 5]
theorem exF_img : imageL exF = imgL := by kernel_rfl

theorem imgCells_at (j : Nat) (h : j < imgL.length) : imgCells[j]? = some (.int .u8 imgL[j].toNat) := by
  match j, h with
  | 0, _ => rfl
  | 1, _ => rfl
  | 2, _ => rfl
  | 3, _ => rfl
  | 4, _ => rfl
  | 5, _ => rfl
  | 6, _ => rfl
  | 7, _ => rfl
  | 8, _ => rfl
  | 9, _ => rfl
  | 10, _ => rfl
  | 11, _ => rfl
  | 12, _ => rfl
  | 13, _ => rfl
  | 14, _ => rfl
  | 15, _ => rfl
  | n + 16, h => exact absurd h (by have : imgL.length = 16 := rfl; omega)

theorem img_conv (w : World) : (convert 97 9 (.slice (some ⟨w.heap.size, 0, none⟩) 16 16)).run Try.prog (w.alloc (.cells imgCells 5)) = .ok (.string ⟨imgL.toArray⟩) (w.alloc (.cells imgCells 5)) := by
  refine run_convert_bytes_back (P := Try.prog) _ 97 9 5 ⟨w.heap.size, 0, none⟩ 16 imgL Try.underlying97 Try.underlying5 Try.underlying9 (fun j hj => ?_)
  have e : (⟨w.heap.size, 0, none⟩ : Addr).add j = ⟨w.heap.size, j, none⟩ := by first | (simp [Addr.add]; done) | (simp [Addr.add]; omega)
  rw [e, World.cell?_alloc_at _ _ _ _ rfl]
  exact imgCells_at j hj

set_option maxHeartbeats 4000000 in
set_option maxRecDepth 20000 in
theorem written_any (w : World) (b : Nat) (v : Value) (hS : SetAt w 149 b v exD) (hD : GoodDic exD) :
    Calls Try.prog 24 #[.pointer (some ⟨b, 0, none⟩)] w fun e w' => e = .returned (.bool true) ∧ Below w.heap.size w w' := by
  have HS : Hid (SetAt w 149 b v exD) := hS
  have HD : Hid (GoodDic exD) := hD
  clear hS hD
  go_enter Try.func24, Try.ntmps24
  go_wp2_with fail
  refine (dictSize_any w b v exD HS.out).mono ?_
  rintro e w0 ⟨rfl, rfl⟩
  rw [exD_len]
  go_wp2_with fail
  refine (dictPrefixes_any w0 b v exD exT0 (by unfold maxLen; decide) HS.out HD.out.2.1 HD.out.1 (fun p hp => ⟨(HD.out.2.2 p hp).1.1, (HD.out.2.2 p hp).1.2.1⟩)).mono ?_
  rintro e w1 ⟨v1, H, rfl, hH, _, hr1, hb1⟩
  have hHe : H = [(2, 20), (3, 30)] := by rw [hH.unique (hits_of HD.out.2.1 exT0), exD_hits]
  subst hHe
  have HB1 : Hid (Below w0.heap.size w0 w1) := hb1
  have HR1 : Hid (w1.ownsRow w0.heap.size 99 2 v1 2 (hitCells [(2, 20), (3, 30)])) := hr1
  have hz1 := hb1.size
  obtain ⟨a1, c1, rfl, hg1⟩ := row_form hr1
  obtain ⟨g1, rfl⟩ := hg1 (by simp)
  clear hH hr1 hb1 hg1
  go_wp2_with fail
  have hSt : StrsAt (w1.alloc (.cells #[.string exC] 9)) (some ⟨w1.heap.size, 0, none⟩) [exC] := by
    refine ⟨fun s hs => ?_, .inr ⟨_, _, rfl, fun i hi => ?_⟩⟩
    · simp at hs
      unfold maxLen
      subst hs
      decide
    · rw [World.cell?_alloc_at _ _ _ _ rfl]
      match i, hi with
      | 0, _ => rfl
  have hC := build_any (w1.alloc (.cells #[.string exC] 9)) (some ⟨w1.heap.size, 0, none⟩) 1 [exC] hSt (by simp)
  refine hC.mono ?_
  rintro e w2 ⟨hbe, hb2⟩
  rcases hbe with ⟨err, rfl, hno⟩ | ⟨b2, v2, D2, rfl, hyes, hSet, hbb, hvb⟩
  · exact absurd hno (exF_builds err)
  · have hg2 := hyes.good
    obtain rfl := exF_rep hyes
    have HB2 : Hid (Below w1.heap.size w1 w2) := ((Below.refl _ w1).alloc (Nat.le_refl _) _).trans (hb2.mono (by simp))
    have HS2 : Hid (SetAt w2 149 b2 v2 exF) := hSet
    have HG2 : Hid (GoodDic exF) := hg2
    clear hyes hSet hvb hb2 hC hSt hg2 hbb
    go_wp2_with fail
    refine (dictImage_any w2 b2 v2 exF HS2.out HG2.out.1 (fun p hp => ⟨(HG2.out.2.2 p hp).1.2.1, (HG2.out.2.2 p hp).2⟩)).mono ?_
    rintro e w3 ⟨S, rfl, hSl, hb3⟩
    have hSe : S = ⟨imgL.toArray⟩ := ba_ext (by rw [hSl, exF_img, ByteArray.toList_eq])
    subst hSe
    have hB : Below w0.heap.size w0 w3 := (HB1.out.trans (HB2.out.mono hz1)).trans (hb3.mono (by have := HB2.out.size; omega))
    have hr3 := ownsRow_below' (ownsRow_below' HR1.out HB2.out) hb3
    have h0 := own_hit hr3 rfl (k := 0) (by simp)
    have h1 := own_hit hr3 rfl (k := 1) (by simp)
    obtain ⟨d0, d1⟩ := h0
    obtain ⟨d2, d3⟩ := h1
    have hgz := cell_lt d0
    have HBB : Hid (Below w0.heap.size w0 (w3.alloc (.cells imgCells 5))) := hB.alloc hB.size _
    have hcv := img_conv w3
    unfold imgCells at hcv
    simp at d0 d1 d2 d3
    clear hSl hb3 hB hr3
    go_wp2
    go_ret
    exact ⟨rfl, HBB.out⟩

end Go.Proofs.Ytlfpepehngkehaa
