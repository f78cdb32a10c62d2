/-
  Walks: images on both sides; what was loaded.
-/
import Derived.Test.YtlfpepehngkehaaGreatLawBuild
import Derived.Test.YtlfpepehngkehaaGreatTakeAll
import Derived.Test.YtlfpepehngkehaaGreatRefLoad
namespace Go.Proofs.YtlfpepehngkehaaGreat
set_option linter.unusedSimpArgs false
set_option linter.unusedVariables false
open Go.RowKit

set_option maxHeartbeats 1000000 in
set_option maxRecDepth 20000 in
theorem imaged_any (w : World) (P : Nat) (D : Dic) (hP : PairAt w P D) :
    Calls Tryz.prog 28 #[.pointer (some ⟨P, 0, none⟩)] w fun e w' => ∃ S : ByteArray, e = .returned (.tuple #[.string S, .bool true]) ∧ Below w.heap.size w w' := by
  obtain ⟨⟨b, B, v, Wv, Cv, h1, h2, h3, h4⟩, hg⟩ := hP
  obtain ⟨h5, h6, h7, h8⟩ := good_words hg
  clear hg
  have HS : Hid (SetAt w 148 b v D) := h3
  have HB : Hid (BookAt w B D Wv Cv) := h4
  have HW : Hid (∀ p ∈ D, p.1.size ≤ 12 ∧ p.2 ≤ 1000) := fun p hp => ⟨(h7 p hp).2, h8 p hp⟩
  clear h3 h4 h5 h7 h8
  go_enter Tryz.func28, Tryz.ntmps28
  go_wp2_with fail
  refine (dictImage_any w b v D HS.out h6 HW.out).mono ?_
  rintro e w1 ⟨S, rfl, hS, hb1⟩
  have h1' : w1.cell? ⟨P, 0, none⟩ = some (.pointer (some ⟨b, 0, none⟩)) := (hb1.cell (p := ⟨P, 0, none⟩) (cell_lt h1)).trans h1
  have h2' : w1.cell? ⟨P, 1, none⟩ = some (.pointer (some ⟨B, 0, none⟩)) := (hb1.cell (p := ⟨P, 1, none⟩) (cell_lt h2)).trans h2
  have HI : Hid (S.toList = imageL D) := hS
  clear hS h1 h2
  go_wp2_with fail
  refine (image_any w1 B Wv Cv D (HB.out.kept (Kept.of_below hb1 (fun _ => False)) id (fun _ _ e => e) (fun _ _ e => e)) h6 HW.out).mono ?_
  rintro e w2 ⟨S', rfl, hS', hb2⟩
  have te : (S.toList == S'.toList) = true := beq_iff_eq.2 (by rw [HI.out, hS'])
  have hbel : Below w.heap.size w w2 := hb1.trans (hb2.mono hb1.size)
  clear hS'
  go_wp2
  go_ret2
  exact ⟨S, rfl, hbel⟩

set_option maxHeartbeats 1000000 in
set_option maxRecDepth 20000 in
theorem loaded_any (w : World) (s : ByteArray) (hs : s.size ≤ 1048576) :
    Calls Tryz.prog 9 #[.string s] w fun e w' => BuiltEnd w w' e ∧ Below w.heap.size w w' := by
  go_enter Tryz.func9, Tryz.ntmps9
  go_wp2_with fail
  refine (load_any w s hs).mono ?_
  rintro e w1 ⟨hle, hb1⟩
  have hz1 := hb1.size
  rcases hle with ⟨rfl, hN⟩ | ⟨b, v, D, rfl, hY, hS, hbb, hvb⟩
  · have HN : Hid (LoadNo s) := hN
    clear hN
    go_wp2_with fail
    refine (refLoad_any w1 s hs).mono ?_
    rintro e w2 ⟨hre, hb2⟩
    have hbel : Below w.heap.size w w2 := hb1.trans (hb2.mono hz1)
    rcases hre with ⟨_, rfl⟩ | ⟨D, B', Wv, Cv, hY, _⟩
    · go_wp2
      go_ret2
      exact ⟨.inl rfl, hbel⟩
    · exact absurd hY.2 (HN.out D hY.1)
  · have HY : Hid (LoadYes s D) := hY
    have HS : Hid (SetAt w1 148 b v D) := hS
    have HVB : Hid (∀ k, v.ownBlock = some k → w.heap.size ≤ k) := hvb
    clear hY hS hvb
    go_wp2_with fail
    refine (refLoad_any w1 s hs).mono ?_
    rintro e w2 ⟨hre, hb2⟩
    have hz2 := hb2.size
    have hbel : Below w.heap.size w w2 := hb1.trans (hb2.mono hz1)
    rcases hre with ⟨hN, rfl⟩ | ⟨D', B', Wv, Cv, hY', rfl, hB, hBge⟩
    · exact absurd HY.out.2 (hN D HY.out.1)
    · obtain rfl := hY'.unique HY.out
      have HD : Hid (GoodDic D') := HY.out.1
      have HS2 : Hid (SetAt w2 148 b v D') := HS.out.below hb2
      have HB2 : Hid (BookAt w2 B' D' Wv Cv) := hB
      clear hY' hB HS
      go_wp2
      go_ret2
      refine ⟨.inr ⟨w2.heap.size, D', rfl, b, B', v, Wv, Cv, ⟨?_, ?_, HS2.out.alloc _, HB2.out.kept ((Kept.refl w2 (fun _ => False)).alloc _) id (fun _ _ e => e) (fun _ _ e => e), HD.out⟩, by omega, by omega, HVB.out, by omega⟩, hbel.alloc (by omega) _⟩
      · rw [World.cell?_alloc_at _ _ _ _ rfl]; rfl
      · rw [World.cell?_alloc_at _ _ _ _ rfl]; rfl

end Go.Proofs.YtlfpepehngkehaaGreat
