/-
  Walks: images on both sides; what was loaded.
-/
import Derived.Test.YtdofjmfbkpdppaaLawBuild
import Derived.Test.YtdofjmfbkpdppaaTakeC
import Derived.Test.YtdofjmfbkpdppaaRefLoad
namespace Go.Proofs.Ytdofjmfbkpdppaa
set_option linter.unusedSimpArgs false
set_option linter.unusedVariables false
open Go.RowKit

set_option maxHeartbeats 1000000 in
set_option maxRecDepth 20000 in
theorem imaged_any (w : World) (P : Nat) (D : Dic) (hP : PairAt w P D) :
    Calls Try.prog 11 #[.pointer (some ⟨P, 0, none⟩)] w fun e w' => ∃ S : ByteArray, e = .returned (.tuple #[.string S, .bool true]) ∧ Below w.heap.size w w' := by
  obtain ⟨⟨b, B, v, Wv, Cv, h1, h2, h3, h4⟩, h5, h6, h7, h8⟩ := hP
  have HS : Hid (SetAt w 97 b v D) := h3
  have HB : Hid (BookAt w B D Wv Cv) := h4
  have HW : Hid (∀ p ∈ D, p.1.size ≤ 12 ∧ p.2 ≤ 1000) := fun p hp => ⟨(h7 p hp).2, h8 p hp⟩
  clear h3 h4 h5 h7 h8
  go_enter Try.func11, Try.ntmps11
  go_wp2_with fail
  refine (dictImage_any w b v D HS.out h6 HW.out).mono ?_
  rintro e w1 ⟨S, rfl, hS, hb1⟩
  have h1' : w1.cell? ⟨P, 0, none⟩ = some (.pointer (some ⟨b, 0, none⟩)) := (hb1.cell (p := ⟨P, 0, none⟩) (cell_lt h1)).trans h1
  have h2' : w1.cell? ⟨P, 1, none⟩ = some (.pointer (some ⟨B, 0, none⟩)) := (hb1.cell (p := ⟨P, 1, none⟩) (cell_lt h2)).trans h2
  have HI : Hid (S.toList = imageL D) := hS
  clear hS h1 h2
  go_wp2_with fail
  refine (image_any w1 B Wv Cv D (HB.out.kept (Kept.of_below hb1 (fun _ => False)) id (fun _ _ e => e) (fun _ _ e => e)) h6 HW.out).mono ?_
  rintro e w2 ⟨S', rfl, hS', hb2⟩
  have te : (S.toList == S'.toList) = true := beq_iff_eq.2 (by rw [HI.out, hS'])
  have hbel : Below w.heap.size w w2 := hb1.trans (hb2.mono hb1.size)
  clear hS'
  go_wp2
  go_ret2
  exact ⟨S, rfl, hbel⟩

set_option maxHeartbeats 1000000 in
set_option maxRecDepth 20000 in
theorem images_walk (w : World) (a : Option Addr) (cap : Nat) (ss : List ByteArray) (hA : StrsAt w a ss) (hn : ss.length * 16 ≤ 140737488351232) :
    Calls Try.prog 5 #[.slice a ss.length cap] w fun e w' => e = .returned (.bool true) ∧ Below w.heap.size w w' := by
  go_enter Try.func5, Try.ntmps5
  go_wp2_with fail
  refine (built_any w a cap ss hA hn).mono ?_
  rintro e w1 ⟨hbe, hb1⟩
  rcases hbe with rfl | ⟨P, D, rfl, hP⟩
  · go_wp2
    go_ret
    exact ⟨rfl, hb1⟩
  · have HP : Hid (PairAt w1 P D) := hP
    clear hP
    go_wp2_with fail
    refine (imaged_any w1 P D HP.out).mono ?_
    rintro e w2 ⟨S, rfl, hb2⟩
    go_wp2
    go_ret
    exact ⟨rfl, hb1.trans (hb2.mono hb1.size)⟩

set_option maxHeartbeats 1000000 in
set_option maxRecDepth 20000 in
theorem loaded_any (w : World) (s : ByteArray) (hs : s.size ≤ 1048576) :
    Calls Try.prog 12 #[.string s] w fun e w' => BuiltEnd w' e ∧ Below w.heap.size w w' := by
  go_enter Try.func12, Try.ntmps12
  go_wp2_with fail
  refine (load_any w s hs).mono ?_
  rintro e w1 ⟨hle, hb1⟩
  have hz1 := hb1.size
  rcases hle with ⟨rfl, hN⟩ | ⟨b, v, D, rfl, hY, hS, hbb, hvb⟩
  · have HN : Hid (LoadNo s) := hN
    clear hN
    go_wp2_with fail
    refine (refLoad_any w1 s hs).mono ?_
    rintro e w2 ⟨hre, hb2⟩
    have hbel : Below w.heap.size w w2 := hb1.trans (hb2.mono hz1)
    rcases hre with ⟨_, rfl⟩ | ⟨D, B', Wv, Cv, hY, _⟩
    · go_wp2
      go_ret2
      exact ⟨.inl rfl, hbel⟩
    · exact absurd hY.2 (HN.out D hY.1)
  · have HY : Hid (LoadYes s D) := hY
    have HS : Hid (SetAt w1 97 b v D) := hS
    clear hY hS hvb
    go_wp2_with fail
    refine (refLoad_any w1 s hs).mono ?_
    rintro e w2 ⟨hre, hb2⟩
    have hz2 := hb2.size
    have hbel : Below w.heap.size w w2 := hb1.trans (hb2.mono hz1)
    rcases hre with ⟨hN, rfl⟩ | ⟨D', B', Wv, Cv, hY', rfl, hB, hBge⟩
    · exact absurd HY.out.2 (hN D HY.out.1)
    · obtain rfl := hY'.unique HY.out
      obtain ⟨g1, g2, g3, g4⟩ := good_words HY.out.1
      have HD : Hid (Srt D' ∧ D'.length ≤ 150 ∧ (∀ p ∈ D', 1 ≤ p.1.size ∧ p.1.size ≤ 12) ∧ ∀ p ∈ D', p.2 ≤ 1000) := ⟨g1, g2, g3, g4⟩
      have HS2 : Hid (SetAt w2 97 b v D') := HS.out.below hb2
      have HB2 : Hid (BookAt w2 B' D' Wv Cv) := hB
      clear g1 g2 g3 g4 hY' hB HS
      go_wp2
      go_ret2
      refine ⟨.inr ⟨w2.heap.size, D', rfl, ⟨⟨b, B', v, Wv, Cv, ?_, ?_, HS2.out.alloc _, HB2.out.kept ((Kept.refl w2 (fun _ => False)).alloc _) id (fun _ _ e => e) (fun _ _ e => e)⟩, HD.out.1, HD.out.2.1, HD.out.2.2.1, HD.out.2.2.2⟩⟩, hbel.alloc (by omega) _⟩
      · rw [World.cell?_alloc_at _ _ _ _ rfl]; rfl
      · rw [World.cell?_alloc_at _ _ _ _ rfl]; rfl

set_option maxHeartbeats 1000000 in
set_option maxRecDepth 20000 in
theorem loads_walk (w : World) (s t : ByteArray) (hs : s.size ≤ 1048576) (ht : t.size ≤ maxLen) :
    Calls Try.prog 6 #[.string s, .string t] w fun e w' => e = .returned (.bool true) ∧ Below w.heap.size w w' := by
  go_enter Try.func6, Try.ntmps6
  go_wp2_with fail
  refine (loaded_any w s hs).mono ?_
  rintro e w1 ⟨hbe, hb1⟩
  rcases hbe with rfl | ⟨P, D, rfl, hP⟩
  · go_wp2
    go_ret
    exact ⟨rfl, hb1⟩
  · have HP : Hid (PairAt w1 P D) := hP
    clear hP
    go_wp2_with fail
    refine (begun_any w1 P D t ht HP.out).mono ?_
    rintro e w2 ⟨v, rfl, hb2⟩
    have HP2 : Hid (PairAt w2 P D) := HP.out.below hb2
    go_wp2_with fail
    refine (imaged_any w2 P D HP2.out).mono ?_
    rintro e w3 ⟨S, rfl, hb3⟩
    have HP3 : Hid (PairAt w3 P D) := HP2.out.below hb3
    go_wp2_with fail
    refine (sized_any w3 P D HP3.out).mono ?_
    rintro e w4 ⟨rfl, rfl⟩
    have hbel := (hb1.trans (hb2.mono hb1.size)).trans (hb3.mono (by have := hb1.size; have := hb2.size; omega))
    go_wp2
    go_ret
    exact ⟨rfl, hbel⟩

end Go.Proofs.Ytdofjmfbkpdppaa
